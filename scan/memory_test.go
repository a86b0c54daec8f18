package scan_test

import (
	"bytes"
	"slices"
	"sync"
	"testing"

	"salvor/api"
	"salvor/scan"
)

// spoil writes into a list, and into its spare room.
func spoil(b []byte) {
	b = b[:cap(b)]
	for i := range b {
		b[i] ^= 0xff
	}
}

// fill writes one thing into a list and into its spare room.
func fill[T any](l []T, x T) {
	l = l[:cap(l)]
	for i := range l {
		l[i] = x
	}
}

// rooms are bytes with others ahead of them and behind.
func rooms(call func(room, b []byte)) {
	r := source()
	lists := edges()
	for range 100 {
		lists = append(lists, anyBytes(r, r.Intn(8)), cleanBytes(r, r.Intn(8)))
	}
	for _, list := range lists {
		ahead := cleanBytes(r, 1)
		room := bytes.Join([][]byte{ahead, list, cleanBytes(r, 2), []byte(anyText(r, 500))}, nil)
		call(room, room[len(ahead):len(ahead)+len(list)])
	}
}

func everyCall(b []byte) {
	scan.Next(b, 0)
	scan.Next(b, len(b)/2)
	for range scan.Frames(b) {
	}
	for range scan.Frames(b) {
		break
	}
	scan.Extents(b)
	scan.Records(b)
	scan.Records(b, api.Put, api.Foot)
	scan.Clean(b)
	scan.Files(3, api.File{Name: "a", Data: b}, api.File{Name: "b", Data: b})
	scan.Files(0, api.File{Name: "a", Data: b})
}

func TestNoBytesHandedInAreChanged(t *testing.T) {
	rooms(func(room, b []byte) {
		before := bytes.Clone(room)
		everyCall(b)
		if !bytes.Equal(room, before) {
			t.Fatalf("of %x came %x", before, room)
		}
	})
}

func TestNoKindsHandedInAreChanged(t *testing.T) {
	b, _ := kindRow()
	for _, count := range []int{0, 1, 2, 5} { // of none too, in whose spare room others stand
		room := []api.Kind{9, api.Hint, 9, api.Put, -1, api.Foot, api.Delete, 7}
		before := slices.Clone(room)
		scan.Records(b, room[1:1+count]...)
		if !slices.Equal(room, before) {
			t.Errorf("of the kinds %v came %v", before, room)
		}
	}
}

func TestNoFilesHandedInAreChanged(t *testing.T) {
	for _, workers := range []int{0, 1, 3, 8, 9} {
		for _, count := range []int{0, 1, 2, 20} {
			room := files(25)
			want := files(25)
			scan.Files(workers, room[2:2+count]...)
			same := func(a, b api.File) bool { return a.Name == b.Name && bytes.Equal(a.Data, b.Data) }
			if !slices.EqualFunc(room, want, same) {
				t.Errorf("Files(%d) of %d files has changed them", workers, count)
			}
		}
	}
}

func TestAnswersShareNothingWithBytesHandedIn(t *testing.T) {
	rooms(func(room, b []byte) {
		before := bytes.Clone(room)
		spoil(scan.Clean(b))
		if !bytes.Equal(room, before) {
			t.Fatalf("what Clean(%x) gives shares memory with it", b)
		}
	})
}

// answers are what the calls that give lists tell of some bytes.
type answers struct {
	frames         []told
	records        []api.Located
	clean          []byte
	extents, ofOne []api.Extent
}

func ask(b []byte) answers {
	cutFiles, _ := scan.Files(2, api.File{Data: b})
	return answers{collect(scan.Frames(b)), scan.Records(b), scan.Clean(b), scan.Extents(b), cutFiles[0]}
}

func answersByWords(b []byte) answers {
	extents := extentsByWords(b)
	return answers{toldByWords(b), recordsByWords(b, nil), cleanByWords(b), extents, extents}
}

func (a answers) equal(b answers) bool {
	return slices.Equal(a.frames, b.frames) && slices.Equal(a.records, b.records) && bytes.Equal(a.clean, b.clean) &&
		slices.Equal(a.extents, b.extents) && slices.Equal(a.ofOne, b.ofOne)
}

// spare is the answers with their spare room, in new memory.
func (a answers) spare() answers {
	return answers{
		a.frames, slices.Clone(a.records[:cap(a.records)]), bytes.Clone(a.clean[:cap(a.clean)]),
		slices.Clone(a.extents[:cap(a.extents)]), slices.Clone(a.ofOne[:cap(a.ofOne)]),
	}
}

func (a answers) spoil() {
	fill(a.records, api.Located{At: -1})
	spoil(a.clean)
	fill(a.extents, isJunk(-1, -1))
	fill(a.ofOne, isJunk(-2, -2))
}

// What was told stays as it is, whatever becomes of the bytes that it was found in; and the next call sees what is there then.
func TestNothingHandedInIsKept(t *testing.T) {
	rooms(func(room, b []byte) {
		want := answersByWords(bytes.Clone(b))
		first := ask(b)
		spoil(room)
		if !first.equal(want) {
			t.Fatalf("what was told changed with the bytes: %v, want %v", first, want)
		}
		if got, want := ask(b), answersByWords(bytes.Clone(b)); !got.equal(want) {
			t.Fatalf("of bytes that were changed into %x: %v, want %v", b, got, want)
		}
		spoil(room)
		if got := ask(b); !got.equal(want) {
			t.Fatalf("of %x, changed back: %v, want %v", b, got, want)
		}
	})
}

func TestTwoAnswersShareNothing(t *testing.T) {
	rooms(func(_, b []byte) {
		one, other := ask(b), ask(b)
		rest := other.spare()
		one.spoil()
		if !other.spare().equal(rest) {
			t.Fatalf("two answers of %x share memory", b)
		}
		if got, want := ask(b), answersByWords(b); !got.equal(want) {
			t.Fatalf("of %x, once an answer was written into: %v, want %v", b, got, want)
		}
	})
}

// Each list of an answer is memory of its own, its spare room too: also of files that are the same.
func TestListsOfOneAnswerShareNothing(t *testing.T) {
	l := files(12)
	l = append(l, l...)
	for _, workers := range []int{1, 2, 8} {
		got, _ := scan.Files(workers, l...)
		other, _ := scan.Files(workers, l...)
		for i := range got {
			rest := make([][]api.Extent, len(got))
			for k := range got {
				rest[k] = slices.Clone(got[k][:cap(got[k])])
			}
			fill(got[i], isJunk(-i, -1))
			for k := range got {
				if k != i && !slices.Equal(got[k][:cap(got[k])], rest[k]) {
					t.Fatalf("Files(%d): the lists %d and %d share memory", workers, i, k)
				}
			}
		}
		fill(got, nil)
		for i := range other {
			if !slices.Equal(other[i], extentsByWords(l[i].Data)) {
				t.Fatalf("Files(%d): two answers share memory", workers)
			}
		}
		checkFiles(t, workers, l...)
	}
}

// Nothing is kept from call to call: many can ask at once, of the same bytes.
func TestAskedAtOnce(t *testing.T) {
	b := anyBytes(source(), 30)
	l := files(10)
	frames := scan.Frames(b)
	want := answersByWords(b)
	wantFiles, _ := scan.Files(1, l...)
	var group sync.WaitGroup
	var wrong [8]int
	for i := range wrong {
		group.Go(func() {
			for range 20 {
				cutFiles, errno := scan.Files(1+i, l...)
				if !ask(b).equal(want) || !slices.Equal(collect(frames), want.frames) || !sameExtents(cutFiles, wantFiles) || errno != api.OK {
					wrong[i]++
				}
			}
		})
	}
	group.Wait()
	if wrong != [8]int{} {
		t.Errorf("wrong answers of each goroutine: %v", wrong)
	}
}
