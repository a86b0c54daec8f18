package keydir_test

import (
	"runtime"
	"slices"
	"strconv"
	"strings"
	"sync"
	"testing"

	"salvor/api"
	"salvor/keydir"
)

// spoil writes over a list, and over its spare room.
func spoil[T any](l []T, with T) {
	l = l[:cap(l)]
	for i := range l {
		l[i] = with
	}
}

var spoiled = api.Seen{Key: "a", LSN: greatest, Kind: api.Delete, Place: at(1, 0), Known: true, Body: body(gone(greatest, "a"))}

// roomy is things of which some are handed in, with others ahead of them and behind.
func roomy() []api.Seen {
	return []api.Seen{
		read(gone(99, "a"), at(1, 0)),
		bare(put(5, "b", ""), at(2, 0)), read(put(4, "b", "x"), at(1, 0)), bare(put(5, "b", ""), at(1, 0)), read(put(3, "a", "y"), at(3, 0)), bare(put(3, "a", ""), at(3, 0)), read(put(5, "c", "z"), at(2, 20)), bare(put(9, "d", ""), at(2, 0)),
		read(gone(99, "b"), at(1, 0)), {},
	}
}

func roomyRecords() []api.Record {
	return []api.Record{gone(99, "a"), put(5, "b", "x"), put(4, "b", "y"), gone(7, "a"), {}, put(3, "c", "x"), put(3, "c", "xx"), put(6, "a", "z"), gone(99, "b"), {LSN: 99}}
}

func TestNothingHandedInIsChanged(t *testing.T) {
	records := roomyRecords()
	keydir.Fold(records[1:8]...)
	keydir.Live(records[1:8]...)
	keydir.Fold(records...)
	if want := roomyRecords(); !slices.Equal(records, want) {
		t.Errorf("Fold and Live make of records %v", records)
	}
	all := roomy()
	d := added(t, all[1:8]...)
	checkErrno(t, "Add", d.Add(all[1:]...), api.ErrKeydirArg)
	add(t, d, all[3:5]...)
	checkSettle(t, d, at(2, 0), body(put(5, "b", "x")), api.OK)
	d.Drop(3)
	if want := roomy(); !slices.Equal(all, want) {
		t.Errorf("Add makes of what was seen %v, want %v", all, want)
	}
	segments := []uint32{9, 3, 2, 3, 8, 1}
	d.Drop(segments[1:4]...)
	if want := []uint32{9, 3, 2, 3, 8, 1}; !slices.Equal(segments, want) {
		t.Errorf("Drop makes of segments %v, want %v", segments, want)
	}
	one, other := added(t, all[4]), added(t, all[6])
	dirs := []*keydir.Dir{one, nil, other, d, nil, one, other}
	want := slices.Clone(dirs)
	d.Join(dirs[1:5]...)
	if !slices.Equal(dirs, want) {
		t.Errorf("Join makes of directories %v, want %v", dirs, want)
	}
}

func TestNothingHandedInIsKept(t *testing.T) {
	keys := []string{"a", "b", "c", "d"}
	all := roomy()
	d := added(t, all[1:8]...)
	want := told(d, keys...)
	spoil(all, spoiled)
	if got := told(d, keys...); got != want {
		t.Errorf("once what was added is others, it tells\n%s\nwant\n%s", got, want)
	}
	segments := []uint32{9, 8, 3}
	d.Drop(segments[:2]...)
	spoil(segments, 2)
	other := added(t, roomy()[4])
	dirs := []*keydir.Dir{other, nil, nil}
	d.Join(dirs[:1]...)
	spoil(dirs, added(t, spoiled))
	add(t, other, spoiled)
	if got := told(d, keys...); got != want {
		t.Errorf("once what was handed in is others, it tells\n%s\nwant\n%s", got, want)
	}
}

func TestWhatFoldTellsIsNewMemory(t *testing.T) {
	l := roomyRecords()
	given := l[1:4] // with spare room behind it
	folded, again := keydir.Fold(given...), keydir.Fold(given...)
	pairs, morePairs := keydir.Live(given...), keydir.Live(given...)
	wantFolded, wantPairs := slices.Clone(again), slices.Clone(morePairs)
	spoil(folded, put(99, "spoiled", ""))
	spoil(pairs, api.Pair{Key: "spoiled"})
	if !slices.Equal(l, roomyRecords()) || !slices.Equal(again, wantFolded) || !slices.Equal(morePairs, wantPairs) {
		t.Errorf("once answers are written over: %v, %v, %v", l, again, morePairs)
	}
	spoil(l, put(99, "spoiled", ""))
	if !slices.Equal(again, wantFolded) || !slices.Equal(morePairs, wantPairs) {
		t.Errorf("once what was handed in is written over: %v, %v", again, morePairs)
	}
	// also where a list is as it was handed in
	sorted := []api.Record{put(1, "a", ""), put(2, "b", ""), put(3, "c", "")}
	spoil(keydir.Fold(sorted...), put(99, "spoiled", ""))
	spoil(keydir.Fold(sorted[:2]...), put(99, "spoiled", ""))
	if want := []api.Record{put(1, "a", ""), put(2, "b", ""), put(3, "c", "")}; !slices.Equal(sorted, want) {
		t.Errorf("what was handed in is %v", sorted)
	}
}

// grown is a directory that has come in many ways to what it knows.
func grown(t *testing.T) *keydir.Dir {
	t.Helper()
	d := added(t, roomy()[1:8]...)
	for i := range 10 {
		n := strconv.Itoa(i)
		add(t, d, read(put(uint64(i+1), "k"+n, n), at(5, 20*i)), bare(put(7, "r", ""), at(6, i)), bare(put(7, "r", ""), at(7, i)), bare(put(8, "s", ""), at(6, i)))
	}
	d.Join(added(t, bare(put(9, "t", ""), at(8, 0)), bare(put(9, "t", ""), at(8, 1)), read(put(1, "u", ""), at(8, 2))))
	checkSettle(t, d, at(6, 3), body(put(7, "r", "x")), api.OK)
	checkSettle(t, d, at(6, 4), "", api.OK)
	d.Drop(7, 3)
	return d
}

func grownKeys() []string {
	return []string{"a", "b", "c", "d", "k0", "k1", "k8", "k9", "r", "s", "t", "u", "v"}
}

func TestListsThatComeOutAreNewMemory(t *testing.T) {
	d := grown(t)
	want := told(d, grownKeys()...)
	keys, rivals, seen := d.Keys(), d.Rivals(), slices.Collect(d.All())
	moreKeys, moreRivals := d.Keys(), d.Rivals()
	wantKeys, wantRivals := slices.Clone(keys), slices.Clone(rivals)
	if len(keys) < 10 || len(rivals) < 10 || len(seen) != len(keys) {
		t.Fatalf("it tells %q, %v, %v", keys, rivals, seen)
	}
	spoil(moreKeys, "spoiled")
	spoil(moreRivals, api.Place{})
	if got := told(d, grownKeys()...); got != want || !slices.Equal(keys, wantKeys) || !slices.Equal(rivals, wantRivals) {
		t.Errorf("once lists are written over it tells\n%s\nwant\n%s", got, want)
	}
	wholeKeys, wholeRivals := slices.Clone(keys[:cap(keys)]), slices.Clone(rivals[:cap(rivals)])
	// what was told stays as it is, spare room and all, whatever becomes of the directory
	for _, p := range d.Rivals() {
		d.Settle(p, "")
	}
	add(t, d, read(put(99, "A", ""), at(9, 0)), bare(put(99, "z", ""), at(9, 0)), bare(put(99, "z", ""), at(9, 1)))
	d.Drop(1, 2, 5, 6, 8)
	d.Keys()
	d.Rivals()
	if !slices.Equal(keys[:cap(keys)], wholeKeys) || !slices.Equal(rivals[:cap(rivals)], wholeRivals) {
		t.Errorf("what was told is now %q, %v", keys[:cap(keys)], rivals[:cap(rivals)])
	}
}

// What one does is not to be seen in another one.
func TestDirectoriesKnowNothingOfOneAnother(t *testing.T) {
	d, e := keydir.New(), grown(t)
	want := told(e, grownKeys()...)
	add(t, d, roomy()[1:8]...)
	if got := told(e, grownKeys()...); got != want {
		t.Errorf("the other one tells\n%s\nwant\n%s", got, want)
	}
	before := told(d, grownKeys()...)
	e.Drop(1, 2, 5, 6, 8)
	if got := told(d, grownKeys()...); got != before {
		t.Errorf("the first one tells\n%s\nwant\n%s", got, before)
	}
	checkTop(t, keydir.New(), 0)
}

// Directories at the same time, one a goroutine; and many that look at one, or take in what it knows.
func TestDirectoriesAtOnce(t *testing.T) {
	shared := grown(t)
	want := told(shared, grownKeys()...)
	var group sync.WaitGroup
	var wrong [8]int
	for i := range wrong {
		group.Go(func() {
			d := keydir.New()
			for k := range 100 {
				if d.Add(read(put(uint64(k+1), "own", strconv.Itoa(i)), at(uint32(i+1), k))) != api.OK || d.Top() != uint64(k+1) {
					wrong[i]++
				}
				if k%10 == 0 && told(shared, grownKeys()...) != want {
					wrong[i]++
				}
			}
			d.Drop(uint32(i + 1))
			d.Join(shared)
			if told(d, grownKeys()...) != want {
				wrong[i]++
			}
		})
	}
	group.Wait()
	if wrong != [8]int{} {
		t.Errorf("wrong answers of each goroutine: %v", wrong)
	}
}

// All that a call began has ended when it answers: it begins nothing.
func TestCallsLeaveNoGoroutines(t *testing.T) {
	before := runtime.NumGoroutine()
	told(grown(t), grownKeys()...)
	keydir.Live(roomyRecords()...)
	for range grown(t).All() {
		break
	}
	if after := runtime.NumGoroutine(); after > before {
		t.Errorf("%d goroutines are left of %d", after, before)
	}
}

// keptBy is how many bytes more are kept behind something that is done.
func keptBy(do func()) int64 {
	var before, after runtime.MemStats
	runtime.GC()
	runtime.ReadMemStats(&before)
	do()
	runtime.GC()
	runtime.ReadMemStats(&after)
	return int64(after.HeapAlloc) - int64(before.HeapAlloc)
}

// What is taken in twice is kept once, and one that is nothing beside another one not at all.
func TestTheSameAgainIsNotKept(t *testing.T) {
	d := keydir.New()
	kept := keptBy(func() {
		for i := range 100000 {
			known := read(put(7, "k", "v"), at(1, i%10))
			add(t, d, known, bare(put(7, "k", ""), known.Place), bare(put(7, "b", ""), known.Place))
		}
	})
	if kept > 1<<20 {
		t.Errorf("%d bytes are kept", kept)
	}
	checkCounts(t, d, read(put(7, "k", "v"), at(1, 0)))
	checkNothing(t, d, "b", api.ErrKeydirOpen)
}

// What is forgotten is given back.
func TestWhatIsForgottenIsNotKept(t *testing.T) {
	value := strings.Repeat("v", 2000)
	for what, come := range map[string]func(d *keydir.Dir, i int){
		"Drop": func(d *keydir.Dir, i int) {
			for k := range 2000 {
				d.Add(read(put(uint64(k+1), "k"+strconv.Itoa(k%100), value), at(uint32(i+1), k)))
			}
			d.Drop(uint32(i + 1))
		},
		"Drop of what is not Known": func(d *keydir.Dir, i int) {
			for k := range 20000 {
				d.Add(bare(put(uint64(k+1), strconv.Itoa(i*20000+k), ""), at(uint32(i+1), k)))
			}
			d.Drop(uint32(i + 1))
		},
		"Settle": func(d *keydir.Dir, i int) {
			for k := range 10000 {
				key := strconv.Itoa(i*10000 + k)
				d.Add(bare(put(1, key, ""), at(1, k)), bare(gone(1, key), at(1, k)))
				d.Settle(at(1, k), "")
			}
		},
	} {
		d := keydir.New()
		come(d, 0)
		kept := keptBy(func() {
			for i := range 8 {
				come(d, i+1)
			}
		})
		if kept > 1<<22 {
			t.Errorf("behind %s: %d bytes are kept", what, kept)
		}
		checkTop(t, d, 0)
	}
}
