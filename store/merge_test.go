package store_test

import (
	"fmt"
	"math/rand"
	"slices"
	"strings"
	"testing"

	"salvor/api"
	"salvor/store"
	"salvor/vdisk"
)

// Nothing to merge: no act is asked for; what is put behind it begins another segment all the same.
func TestMergeOfNothing(t *testing.T) {
	d := diskOf(t, room)
	s := opened(t, d, ample)
	for range 2 {
		checkError(t, s.Merge(), "Merge", api.OK)
	}
	if d.Acts() != 0 || len(d.Names()) != 0 {
		t.Errorf("of an empty disk: %d acts, %q", d.Acts(), d.Names())
	}
	checkError(t, s.Put("a", "1"), "Put", api.OK)
	checkError(t, s.Merge(), "Merge", api.OK)
	if d.Acts() != 3 { // all of it by Put, but a sync
		t.Errorf("of a segment that stands so already: %d acts", d.Acts())
	}
	checkMap(t, s, map[string]string{"a": "1"})
	checkError(t, s.Put("b", "2"), "Put", api.OK)
	checkFile(t, d, seg1, laid(put(1, "a", "1")))
	checkFile(t, d, seg2, laid(put(2, "b", "2")))
	checkMap(t, s, map[string]string{"a": "1", "b": "2"})
}

// much is a store of which much was overwritten and deleted, and what it has.
func much(t *testing.T, capacity int, c api.Config) (*store.Store, *vdisk.Disk, map[string]string) {
	t.Helper()
	d := diskOf(t, capacity)
	s := opened(t, d, c)
	want := map[string]string{}
	for n := range 60 {
		key, value := fmt.Sprint("k", n%7), fmt.Sprint("value ", n)
		checkError(t, s.Put(key, value), "Put", api.OK)
		want[key] = value
		if n%5 == 0 {
			key := fmt.Sprint("k", n%3)
			checkError(t, s.Delete(key), "Delete", api.OK)
			delete(want, key)
		}
	}
	return s, d, want
}

// What counts is laid into segments of at most the limit, and a new segment is begun behind it.
func TestMergeOfMuch(t *testing.T) {
	for _, limit := range []int{64, 100, 1000} {
		s, d, want := much(t, room, api.Config{Limit: limit, Every: 3})
		last := s.Last()
		earlier := sumOf(d.Files())
		checkError(t, s.Merge(), "Merge", api.OK)
		checkMap(t, s, want)
		checkLast(t, s, last)
		if now := sumOf(d.Files()); now >= earlier || !lastsWhole(d) {
			t.Errorf("limit %d: %d bytes have become %d", limit, earlier, now)
		}
		for _, f := range d.Files() {
			if isSegment(f.Name) && len(f.Data) > limit {
				t.Errorf("limit %d: %q has %d bytes", limit, f.Name, len(f.Data))
			}
		}
		names := d.Names()
		checkError(t, s.Put("new", "value"), "Put", api.OK)
		want["new"] = "value"
		added := slices.DeleteFunc(d.Names(), func(name string) bool { return slices.Contains(names, name) })
		if len(added) != 1 {
			t.Fatalf("limit %d: a Put has added %q", limit, added)
		}
		checkFile(t, d, added[0], laid(put(last+1, "new", "value")))
		checkMap(t, s, want)
		for range 3 {
			checkError(t, s.Merge(), "Merge", api.OK)
			checkMap(t, s, want)
		}
		checkError(t, s.Delete("new"), "Delete", api.OK)
		delete(want, "new")
		checkMap(t, s, want)
		checkError(t, s.Close(), "Close", api.OK)
		for _, fast := range []bool{false, true} {
			then := opened(t, d, api.Config{Limit: limit, Fast: fast})
			checkMap(t, then, want)
			checkLast(t, then, last+2)
		}
	}
}

// The size of the new segments is the Config's limit, whatever the old ones had.
func TestMergeToTheLimit(t *testing.T) {
	var l []api.Record
	for n := range 20 {
		l = append(l, put(uint64(n+1), fmt.Sprintf("%02d", n), "0123456789"))
	}
	for _, x := range []struct{ limit, segments int }{{64, 10}, {80, 7}, {1000, 1}} { // of 25 bytes each
		d := diskOf(t, room, clean(1, l...)...)
		s := opened(t, d, api.Config{Limit: x.limit})
		checkError(t, s.Merge(), "Merge", api.OK)
		count := 0
		for _, name := range d.Names() {
			if isSegment(name) {
				count++
			}
		}
		if count != x.segments {
			t.Errorf("limit %d: %d segments", x.limit, count)
		}
	}
}

// An error of the writer ends it: the store goes on with a new one, if that does not break it.
func TestMergeWhoseWriterFails(t *testing.T) {
	for _, f := range faults {
		s, d, want := much(t, room, ample)
		segments := d.Files()
		f.arm(d, 1)
		checkError(t, s.Merge(), "Merge", f.want)
		if now := d.Files(); sayFiles(now) != sayFiles(segments) {
			t.Errorf("then there is %s", sayFiles(now))
		}
		checkError(t, s.Put("k0", "x"), "Put", api.ErrStoreBroken)
		checkError(t, s.Merge(), "Merge", api.ErrStoreBroken)
		checkError(t, s.Sync(), "Sync", api.ErrStoreBroken)
		d.Crash(room)
		checkMap(t, s, want)
		checkMap(t, opened(t, d, plain), want)
	}

	// the segment at hand is gone: no act is counted, and nothing else is done
	d := diskOf(t, room, clean(1, put(1, "a", "x"), put(2, "a", "y"))...)
	s := opened(t, d, ample)
	checkError(t, s.Put("b", "lost"), "Put", api.OK)
	isOK(t, d.Remove(seg2))
	checkError(t, s.Put("b", "too"), "Put", api.ErrDiskNone)
	checkError(t, s.Sync(), "Sync", api.ErrDiskNone)
	before := sayDisk(d)
	checkError(t, s.Merge(), "Merge", api.ErrDiskNone)
	if now := sayDisk(d); now != before {
		t.Errorf("then there is %s, was %s", now, before)
	}
	checkNone(t, s, "b", api.ErrStoreBad) // the directory is what it was
	checkLast(t, s, 3)
	checkError(t, s.Put("c", "z"), "Put", api.OK)
	checkFile(t, d, seg2, laid(put(4, "c", "z")))
	checkError(t, s.Merge(), "Merge", api.OK)
	checkMap(t, s, map[string]string{"a": "y", "c": "z"})
}

// Without room nothing is done, and the store goes on; when there is room a merge comes through.
func TestMergeWithoutRoom(t *testing.T) {
	s, d, want := much(t, 3000, api.Config{Limit: 1000})
	filler := d.Capacity() - d.Used() - 40
	isOK(t, d.Create("other"))
	isOK(t, d.Append("other", make([]byte, filler)))
	files := sayFiles(d.Files())
	for range 2 {
		checkError(t, s.Merge(), "Merge", api.ErrPlanFull)
		if now := sayFiles(d.Files()); now != files || !slices.Contains(d.Names(), seg1) {
			t.Errorf("then there is %s, was %s", now, files)
		}
		checkMap(t, s, want)
		checkLast(t, s, 72)
	}
	checkError(t, s.Put("k0", "x"), "Put", api.OK)
	want["k0"] = "x"
	checkMap(t, s, want)
	if got, there := ofName(d.Files(), d.Names()[len(d.Names())-1]); !there || got != laid(put(73, "k0", "x")) {
		t.Errorf("a Put behind it writes into no new segment: %q", got)
	}
	isOK(t, d.Remove("other"))
	checkError(t, s.Merge(), "Merge", api.OK)
	checkMap(t, s, want)
}

// The errors of merge.Run, at each of its acts: what the store has is as it was, and can be read; nothing is written any more.
func TestMergeThatFailsAtEachAct(t *testing.T) {
	for _, c := range []api.Config{{Limit: 200}, {Limit: 64, Every: 1}} {
		s, d, _ := much(t, room, c)
		checkError(t, s.Sync(), "Sync", api.OK) // so that the writer has nothing to sync
		before := d.Acts()
		checkError(t, s.Merge(), "Merge", api.OK)
		acts := d.Acts() - before
		if acts < 15 {
			t.Fatalf("only %d acts", acts)
		}
		for n := 1; n <= acts; n++ {
			for _, f := range faults {
				s, d, want := much(t, room, c)
				last := s.Last()
				checkError(t, s.Sync(), "Sync", api.OK)
				f.arm(d, n)
				checkError(t, s.Merge(), "Merge", f.want)
				checkError(t, s.Put("k0", "x"), "Put", api.ErrStoreBroken)
				checkError(t, s.Delete(), "Delete", api.ErrStoreBroken)
				checkLast(t, s, last)
				d.Crash(0)
				checkMap(t, s, want) // wherever a record stands by then
				checkLast(t, s, last)
				for _, fast := range []bool{false, true} {
					then := opened(t, d, api.Config{Limit: 100, Fast: fast})
					checkMap(t, then, want)
					checkLast(t, then, last)
				}
				checkMap(t, s, want) // what was salvaged stands where it stood: all of these segments are clean
			}
		}
	}
}

// A merge of a disk that is down, where the writer has nothing to sync.
func TestMergeOfADiskThatIsDown(t *testing.T) {
	d := diskOf(t, room, clean(1, put(1, "a", "x"), put(2, "a", "y"))...)
	s := opened(t, d, ample)
	d.BreakAt(1, false)
	d.Create("x")
	checkError(t, s.Merge(), "Merge", api.ErrDiskDown)
	checkError(t, s.Merge(), "Merge", api.ErrStoreBroken)
	d.Crash(0)
	checkMap(t, s, map[string]string{"a": "y"})
	checkError(t, s.Put("b", ""), "Put", api.ErrStoreBroken)
}

// The directory is made anew of what stands on the disk: what others have done to it is seen behind a merge, whatever came of that.
func TestMergeSeesWhatOthersHaveDone(t *testing.T) {
	for _, fails := range []bool{false, true} {
		d := diskOf(t, room, slices.Concat(clean(1, put(1, "a", "x"), put(2, "b", "old")), clean(2, put(3, "c", "y"), put(4, "b", "new")), files("full", strings.Repeat("f", 90000)))...)
		s := opened(t, d, ample)
		checkError(t, s.Put("d", "z"), "Put", api.OK)
		isOK(t, d.Remove(seg2))
		isOK(t, d.Create("seg-00000007.log"))
		isOK(t, d.Append("seg-00000007.log", []byte("xx"+laid(put(50, "e", "other"), gone(60, "a"), put(9, "a", "less"), put(55, "f", "")))))
		isOK(t, d.Append("seg-00000007.log", []byte(laid(put(55, "f", "greater")))))
		checkKeys(t, s, "a", "b", "c", "d")
		checkLast(t, s, 5)
		want := api.OK
		if fails {
			isOK(t, d.Append("full", make([]byte, d.Capacity()-d.Used()-1)))
			want = api.ErrPlanFull
		}
		checkError(t, s.Merge(), "Merge", want)
		checkMap(t, s, map[string]string{"b": "old", "d": "z", "e": "other", "f": "greater"})
		checkLast(t, s, 60)
		if fails {
			isOK(t, d.Truncate("full", 0))
		}
		checkError(t, s.Put("b", "again"), "Put", api.OK)
		checkLast(t, s, 61)
		checkGet(t, s, "b", "again")
	}
}

// A hint file that was believed has told less: behind a merge the greatest number is that of all records. If a merge finds less than the store knows, it stays.
func TestMergeAndTheGreatestNumber(t *testing.T) {
	l := []api.Record{put(3, "a", "old"), put(10, "a", "new"), put(2, "b", "x")}
	lie := hintSaying(func(i int, p *api.Pointer) {
		if i == 1 {
			p.LSN = 1
		}
	}, l...)
	d := diskOf(t, room, files(seg1, laid(l...), hint1, lie)...)
	s := opened(t, d, api.Config{Limit: 64, Fast: true})
	checkMap(t, s, map[string]string{"a": "old", "b": "x"})
	checkLast(t, s, 3)
	checkError(t, s.Merge(), "Merge", api.OK)
	checkMap(t, s, map[string]string{"a": "new", "b": "x"})
	checkLast(t, s, 10)
	checkError(t, s.Delete("a"), "Delete", api.OK)
	checkLast(t, s, 11)
	for _, f := range d.Files() {
		isOK(t, d.Remove(f.Name))
	}
	checkError(t, s.Merge(), "Merge", api.ErrDiskNone) // what it was to sync is gone
	checkError(t, s.Merge(), "Merge", api.OK)
	checkKeys(t, s)
	checkLast(t, s, 11)
	checkError(t, s.Put("c", ""), "Put", api.OK)
	checkLast(t, s, 12)
}

// Copies of a record, in a segment that a merge takes away and in one that it leaves: there is one record, wherever it is read.
func TestMergeWithCopies(t *testing.T) {
	l := []api.Record{put(5, "a", "x"), put(6, "b", "y"), gone(7, "c"), put(4, "c", "z")}
	d := diskOf(t, room, append(clean(3, l...), files(seg2, laid(l...)+footFrame(api.Ending{}), seg1, laid(l...), seg4, laid(l...)+laid(l...))...)...)
	s := opened(t, d, plain)
	for range 3 {
		checkMap(t, s, map[string]string{"a": "x", "b": "y"})
		checkError(t, s.Merge(), "Merge", api.OK)
	}
	// where copies stand, the least place is asked: whoever spoils the others is not seen
	for _, name := range d.Names() {
		if isSegment(name) && name != seg2 {
			isOK(t, d.Truncate(name, 0))
		}
	}
	checkMap(t, s, map[string]string{"a": "x", "b": "y"})
}

// Merges at any moment of any script: the store has what it had.
func TestMergesInBetween(t *testing.T) {
	r := source()
	for range 40 {
		d := diskOf(t, room)
		s := opened(t, d, api.Config{Limit: pick(r, 64, 100, 300), Every: r.Intn(3)})
		want := map[string]string{}
		for range 60 {
			change(t, r, s, want)
			if r.Intn(6) == 0 {
				checkError(t, s.Merge(), "Merge", api.OK)
				checkMap(t, s, want)
			}
		}
	}
}

// change puts or deletes something.
func change(t *testing.T, r *rand.Rand, s keeping, want map[string]string) {
	t.Helper()
	key := pick(r, "a", "b", "c", "d", "\xa7", key64)
	if r.Intn(3) == 0 {
		checkError(t, s.Delete(key), "Delete", api.OK)
		delete(want, key)
		return
	}
	value := strings.Repeat(fmt.Sprint(r.Intn(10)), r.Intn(40))
	checkError(t, s.Put(key, value), "Put", api.OK)
	want[key] = value
}
