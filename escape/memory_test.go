package escape_test

import (
	"bytes"
	"sync"
	"testing"

	"salvor/escape"
)

// spoil writes into a list, and into its spare room.
func spoil(b []byte) {
	b = b[:cap(b)]
	for i := range b {
		b[i] ^= 0xff
	}
}

func open(escaped []byte) []byte {
	plain, _, _ := escape.Open(escaped)
	return plain
}

type way struct {
	name string
	call func([]byte) []byte
}

// ways are the calls that give a list.
func ways() []way { return []way{{"Wrap", escape.Wrap}, {"Open", open}} }

// rooms are lists with other bytes ahead and behind: empty ones, with and without something to write otherwise, and some that cannot be opened.
func rooms(call func(room, list []byte)) {
	r := source()
	lists := [][]byte{nil, []byte("a"), []byte("salvor"), []byte("\xa7\xa6"), []byte("a\xa6\x01b"), []byte("ab\xa7"), []byte("\xa6")}
	for _, count := range []int{1, 7, 8, 9, 31, 32, 33, 500} {
		lists = append(lists, bytes.Repeat([]byte("a"), count), goodBytes(r, count), anyBytes(r, count))
	}
	for _, list := range lists {
		room := bytes.Join([][]byte{anyBytes(r, 20), list, anyBytes(r, 600)}, nil)
		call(room, room[20:20+len(list)])
	}
}

func TestNothingHandedInIsChanged(t *testing.T) {
	rooms(func(room, list []byte) {
		before := bytes.Clone(room)
		escape.Wrap(list)
		escape.Size(list)
		escape.Open(list)
		escape.Next(list, 0)
		for range escape.Each(list) {
		}
		if !bytes.Equal(room, before) {
			t.Errorf("of %x came %x", before, room)
		}
	})
}

func TestAnswersShareNothingWithWhatIsHandedIn(t *testing.T) {
	for _, w := range ways() {
		rooms(func(room, list []byte) {
			before := bytes.Clone(room)
			spoil(w.call(list))
			if !bytes.Equal(room, before) {
				t.Errorf("what %s(%x) gives shares memory with it", w.name, list)
			}
		})
	}
}

// What was handed in may be changed later: no earlier answer minds, and the next call sees what is there then.
func TestNothingHandedInIsKept(t *testing.T) {
	for _, w := range ways() {
		rooms(func(room, list []byte) {
			first := w.call(list)
			want := bytes.Clone(first)
			spoil(room)
			if !bytes.Equal(first, want) {
				t.Errorf("of what %s gave, %x, came %x", w.name, want, first)
			}
			if got, want := w.call(list), w.call(bytes.Clone(list)); !bytes.Equal(got, want) {
				t.Errorf("%s of a list that was changed = %x, want %x", w.name, got, want)
			}
			spoil(room)
			if got := w.call(list); !bytes.Equal(got, want) {
				t.Errorf("%s of a list that was changed back = %x, want %x", w.name, got, want)
			}
		})
	}
}

func TestTwoAnswersShareNothing(t *testing.T) {
	for _, w := range ways() {
		rooms(func(_, list []byte) {
			one, other := w.call(list), w.call(list)
			want, rest := bytes.Clone(one), bytes.Clone(other[:cap(other)])
			spoil(one)
			if !bytes.Equal(other[:cap(other)], rest) {
				t.Errorf("two answers of %s(%x) share memory", w.name, list)
			}
			if got := w.call(list); !bytes.Equal(got, want) {
				t.Errorf("%s(%x) = %x, once an answer was written into; want %x", w.name, list, got, want)
			}
		})
	}
}

// Nothing is kept from call to call: many can ask at once, of the same bytes.
func TestAskedAtOnce(t *testing.T) {
	plain := anyBytes(source(), 300)
	escaped := wrapByWords(plain)
	each := escape.Each(escaped)
	var group sync.WaitGroup
	var wrong [8]int
	for i := range wrong {
		group.Go(func() {
			for range 50 {
				var got []byte
				for _, c := range each {
					got = append(got, c)
				}
				if !bytes.Equal(got, plain) || !bytes.Equal(escape.Wrap(plain), escaped) || !bytes.Equal(open(escaped), plain) {
					wrong[i]++
				}
			}
		})
	}
	group.Wait()
	if wrong != [8]int{} {
		t.Errorf("wrong answers of each goroutine: %v", wrong)
	}
}
