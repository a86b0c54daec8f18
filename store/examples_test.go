package store_test

import (
	"strings"
	"testing"

	"salvor/api"
)

func TestExampleOfADelete(t *testing.T) {
	d := diskOf(t, room)
	s := opened(t, d, ample)
	checkError(t, s.Put("a", "1"), "Put", api.OK)
	checkError(t, s.Put("b", "2"), "Put", api.OK)
	checkError(t, s.Delete("a", "c"), "Delete", api.OK)
	checkKeys(t, s, "b")
	checkLast(t, s, 3)
	checkFile(t, d, seg1, laid(put(1, "a", "1"), put(2, "b", "2"), gone(3, "a")))
}

func TestExampleOfTwoErrors(t *testing.T) {
	s := opened(t, diskOf(t, room), ample)
	checkError(t, s.Put(key65, strings.Repeat("v", 3000)), "Put", api.ErrStoreKey)
}

func TestExampleOfAFullDisk(t *testing.T) {
	old := laid(put(1, "a", "old"))
	d := diskOf(t, len(old)+10, files("other", "nine byte")...)
	s := opened(t, d, ample)
	checkError(t, s.Put("a", "old"), "Put", api.OK)
	for range 3 {
		checkError(t, s.Put("a", "new"), "Put", api.ErrDiskFull)
		checkLast(t, s, 1)
		checkMap(t, s, map[string]string{"a": "old"})
	}
	isOK(t, d.Remove("other"))
	checkError(t, s.Delete("a"), "Delete", api.ErrDiskFull) // there is room for neither yet
	checkError(t, s.Close(), "Close", api.OK)

	d = diskOf(t, 2*len(old)+5, files("other", "nine byte")...)
	s = opened(t, d, ample)
	checkError(t, s.Put("a", "old"), "Put", api.OK)
	checkError(t, s.Put("a", "new"), "Put", api.ErrDiskFull)
	isOK(t, d.Remove("other"))
	checkError(t, s.Put("a", "new"), "Put", api.OK)
	checkLast(t, s, 2)
	checkMap(t, s, map[string]string{"a": "new"})
	checkFile(t, d, seg1, laid(put(1, "a", "old"), put(2, "a", "new")))
}

func TestExampleOfADiskThatFails(t *testing.T) {
	for _, x := range []struct {
		n    int
		want string
	}{{1, "old"}, {2, "new"}} { // the frame itself, or its sync
		d := diskOf(t, room)
		s := opened(t, d, api.Config{Limit: 100, Every: 1})
		checkError(t, s.Put("a", "old"), "Put", api.OK)
		isOK(t, d.FailAt(x.n))
		checkError(t, s.Put("a", "new"), "Put", api.ErrDiskIO)
		for range 2 {
			checkError(t, s.Put("a", "new"), "Put", api.ErrStoreBroken)
			checkMap(t, s, map[string]string{"a": "old"})
		}
		checkMap(t, opened(t, d, plain), map[string]string{"a": x.want})
	}
}

func TestExampleOfTheGreatestNumber(t *testing.T) {
	for _, fast := range []bool{false, true} {
		d := diskOf(t, room, clean(1, put(spent, "a", "x"))...)
		s := opened(t, d, api.Config{Limit: 100, Fast: fast})
		checkLast(t, s, spent)
		checkGet(t, s, "a", "x")
		acts := d.Acts()
		checkError(t, s.Put("a", "y"), "Put", api.ErrStoreSpent)
		checkError(t, s.Delete("b"), "Delete", api.OK)
		if d.Acts() != acts {
			t.Errorf("%d acts were asked for", d.Acts()-acts)
		}
		checkMap(t, s, map[string]string{"a": "x"})
	}
}

func TestExampleOfAMerge(t *testing.T) {
	for _, fast := range []bool{false, true} {
		d := diskOf(t, room)
		s := opened(t, d, plain)
		checkError(t, s.Put("a", "1"), "Put", api.OK)
		checkError(t, s.Put("a", "2"), "Put", api.OK)
		checkError(t, s.Merge(), "Merge", api.OK)
		checkFile(t, d, seg2, laid(put(2, "a", "2")))
		checkError(t, s.Close(), "Close", api.OK)
		s = opened(t, d, api.Config{Limit: 64, Fast: fast})
		checkGet(t, s, "a", "2")
		checkLast(t, s, 2)
	}
}

func TestExampleOfAClosedStore(t *testing.T) {
	s := opened(t, diskOf(t, room), plain)
	checkError(t, s.Put("a", "1"), "Put", api.OK)
	checkError(t, s.Close(), "Close", api.OK)
	checkError(t, s.Close(), "Close", api.ErrStoreClosed)
	checkKeys(t, s)
	checkNone(t, s, "a", api.ErrStoreClosed)
}

// Examples 8 and 9 of the document's first page.
func TestExamplesOfTheDocument(t *testing.T) {
	d := diskOf(t, room)
	s := opened(t, d, plain)
	checkError(t, s.Put("a", "1"), "Put", api.OK)
	checkError(t, s.Sync(), "Sync", api.OK)
	checkError(t, s.Put("b", "2"), "Put", api.OK)
	isOK(t, d.Crash(0))
	s = opened(t, d, plain)
	checkMap(t, s, map[string]string{"a": "1"})
	checkLast(t, s, 1)
	checkError(t, s.Put("c", "3"), "Put", api.OK)
	checkLast(t, s, 2)
	checkFile(t, d, seg2, laid(put(2, "c", "3")))

	s = opened(t, diskOf(t, room, files(seg1, laid(put(spent, "a", "x"), put(7, "b", "y")))...), plain)
	checkMap(t, s, map[string]string{"a": "x", "b": "y"})
	checkError(t, s.Put("c", "3"), "Put", api.ErrStoreSpent)
	checkError(t, s.Delete("b"), "Delete", api.ErrStoreSpent)
	checkMap(t, s, map[string]string{"a": "x", "b": "y"})
}

// Example 10: the segment that is left has been synced before the next one is begun.
func TestExampleOfTwoSegments(t *testing.T) {
	d := diskOf(t, room)
	s := opened(t, d, api.Config{Limit: 64})
	for range 5 {
		checkError(t, s.Put("a", "1234567890"), "Put", api.OK)
	}
	if l := d.Files(); len(l) != 3 || d.Acts() != 3+5+2 { // files, frames, and files that were left
		t.Fatalf("there is %s, %d acts", sayFiles(l), d.Acts())
	}
	isOK(t, d.Crash(0))
	checkFile(t, d, seg1, laid(put(1, "a", "1234567890"), put(2, "a", "1234567890")))
	checkFile(t, d, seg2, laid(put(3, "a", "1234567890"), put(4, "a", "1234567890")))
	checkFile(t, d, seg3, "")
}
