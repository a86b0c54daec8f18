package store_test

import (
	"slices"
	"strings"
	"testing"

	"salvor/api"
)

func TestWhichErrorDeleteTells(t *testing.T) {
	bad := [][]string{{""}, {key65}, {"a", ""}, {"", "a"}, {"a", "b", strings.Repeat("k", 1000), "c"}, {"none", ""}}
	for _, x := range []struct {
		state
		key, valued, other api.Errno // of a key that may not be; of keys that have values; of others, and of none
	}{
		{state{"spent", spentOn}, api.ErrStoreKey, api.ErrStoreSpent, api.OK},
		{state{"broken", broken(7)}, api.ErrStoreKey, api.ErrStoreBroken, api.ErrStoreBroken},
		{state{"broken and spent", broken(spent - 1)}, api.ErrStoreKey, api.ErrStoreBroken, api.ErrStoreBroken},
		{state{"closed", closed(spentOn)}, api.ErrStoreClosed, api.ErrStoreClosed, api.ErrStoreClosed},
		{state{"closed, broken and spent", closed(broken(spent - 1))}, api.ErrStoreClosed, api.ErrStoreClosed, api.ErrStoreClosed},
	} {
		s, d := x.fresh(t)
		before, last := told(s), s.Last()
		acts := d.Acts()
		for _, keys := range bad {
			checkError(t, s.Delete(keys...), "Delete", x.key)
		}
		for _, keys := range [][]string{{"a"}, {"a", "b"}, {"none", "a"}, {"a", "a"}} {
			checkError(t, s.Delete(keys...), "Delete", x.valued)
		}
		for _, keys := range [][]string{nil, {}, {"none"}, {"none", key64, "none"}} {
			checkError(t, s.Delete(keys...), "Delete", x.other)
		}
		if d.Acts() != acts || s.Last() != last || told(s) != before {
			t.Errorf("%s: %s, was %s", x.what, told(s), before)
		}
	}
}

// Unlike keys each once, those that have a value, in the order in which they come first.
func TestDeleteWrites(t *testing.T) {
	d := diskOf(t, room, clean(3, put(40, "a", "1"), put(41, "b", "2"), put(42, "c", "3"), gone(43, "d"))...)
	s := opened(t, d, ample)
	checkError(t, s.Put(key64, ""), "Put", api.OK)
	checkError(t, s.Delete("none", "c", "d", "a", "c", key64, "a", "none"), "Delete", api.OK)
	checkLast(t, s, 47)
	checkMap(t, s, map[string]string{"b": "2"})
	for _, key := range []string{"a", "c", "d", key64, "none"} {
		checkNone(t, s, key, api.OK)
	}
	checkFile(t, d, seg1, laid(put(44, key64, ""), gone(45, "c"), gone(46, "a"), gone(47, key64)))
	// what is deleted has no value any more
	acts := d.Acts()
	checkError(t, s.Delete("a", "c", "d", key64), "Delete", api.OK)
	checkError(t, s.Delete(), "Delete", api.OK)
	checkLast(t, s, 47)
	if d.Acts() != acts {
		t.Errorf("%d acts", d.Acts()-acts)
	}
	checkError(t, s.Put("a", "again"), "Put", api.OK)
	checkError(t, s.Delete("b", "a"), "Delete", api.OK)
	checkFile(t, d, seg1, laid(put(44, key64, ""), gone(45, "c"), gone(46, "a"), gone(47, key64), put(48, "a", "again"), gone(49, "b"), gone(50, "a")))
	checkKeys(t, s)
	checkError(t, s.Close(), "Close", api.OK)
	for _, fast := range []bool{false, true} {
		s := opened(t, d, api.Config{Limit: 64, Fast: fast})
		checkKeys(t, s)
		checkLast(t, s, 50)
	}
}

// A key of which only Deletes are known, or whose Put is older, has no value; whichever store has deleted it.
func TestDeleteOfAnEarlierStore(t *testing.T) {
	for _, fast := range []bool{false, true} {
		d := diskOf(t, room, append(clean(1, gone(5, "a"), gone(6, "b")), clean(2, put(4, "a", "old"), put(7, "c", ""))...)...)
		s := opened(t, d, api.Config{Limit: 100, Fast: fast})
		acts := d.Acts()
		checkError(t, s.Delete("a", "b"), "Delete", api.OK)
		if d.Acts() != acts || s.Last() != 7 {
			t.Errorf("%d acts, last %d", d.Acts()-acts, s.Last())
		}
		checkError(t, s.Delete("c", "a"), "Delete", api.OK)
		checkLast(t, s, 8)
		checkKeys(t, s)
	}
}

// So many numbers are left, and so many unlike keys have values: nothing is deleted, if there are too few.
func TestDeleteUpToTheGreatestNumber(t *testing.T) {
	l := []api.Record{put(1, "a", ""), put(2, "b", ""), put(3, "c", ""), gone(4, "gone")}
	for left := range uint64(5) {
		for _, x := range []struct {
			keys []string
			want uint64 // how many have values
		}{
			{nil, 0}, {[]string{"gone"}, 0}, {[]string{"none", "gone", "none"}, 0},
			{[]string{"a"}, 1}, {[]string{"a", "a", "a"}, 1}, {[]string{"none", "b", "gone", "none"}, 1},
			{[]string{"a", "b"}, 2}, {[]string{"b", "a", "b", "none", "a"}, 2},
			{[]string{"c", "b", "a"}, 3}, {[]string{"none", "c", "b", "c", "a", "gone"}, 3}, {[]string{"c", "b", "a", "top"}, 4},
		} {
			d := diskOf(t, room, append(clean(1, l...), clean(2, put(spent-left, "top", ""))...)...)
			s := opened(t, d, ample)
			before, acts := told(s), d.Acts()
			err := s.Delete(x.keys...)
			if x.want > left {
				checkError(t, err, "Delete", api.ErrStoreSpent)
				if d.Acts() != acts || told(s) != before {
					t.Fatalf("Delete(%q) with %d numbers left: %s, was %s", x.keys, left, told(s), before)
				}
				continue
			}
			checkError(t, err, "Delete", api.OK)
			checkLast(t, s, spent-left+x.want)
			for _, key := range s.Keys() {
				if slices.Contains(x.keys, key) {
					t.Fatalf("Delete(%q) leaves %q", x.keys, key)
				}
			}
		}
	}
}

// What an error ends: those ahead of it are deleted, and the others have what they had.
func TestDeleteThatIsEnded(t *testing.T) {
	values := map[string]string{"a": "1", "b": "2", "c": "3", "d": "4"}
	keys := []string{"c", "none", "a", "c", "d", "b"}
	inTurn := []string{"c", "a", "d", "b"}
	l := clean(1, put(1, "a", "1"), put(2, "b", "2"), put(3, "c", "3"), put(4, "d", "4"))
	size := len(whole(gone(5, "c")))
	for n := range inTurn {
		left := map[string]string{}
		for _, key := range inTurn[n:] {
			left[key] = values[key]
		}
		// there is room for n of them
		d := diskOf(t, sumOf(l)+(n+1)*size-1, l...)
		s := opened(t, d, ample)
		checkError(t, s.Delete(keys...), "Delete", api.ErrDiskFull)
		checkMap(t, s, left)
		checkLast(t, s, 4+uint64(n))
		checkError(t, s.Sync(), "Sync", api.OK)
		checkMap(t, opened(t, diskOf(t, room, d.Files()...), api.Config{Limit: 1000, Fast: true}), left)

		for _, f := range faults {
			for _, keep := range []int{0, room} {
				d := diskOf(t, room, l...)
				s := opened(t, d, ample)
				f.arm(d, n+2) // behind a Create, and the frames ahead
				checkError(t, s.Delete(keys...), "Delete", f.want)
				checkKeys(t, s, slices.Sorted(slices.Values(inTurn[n:]))...)
				checkLast(t, s, 4+uint64(n))
				checkError(t, s.Delete("b"), "Delete", api.ErrStoreBroken)
				d.Crash(keep)
				checkMap(t, s, left) // of what it has all can be read: of no Delete anything need be
				count := n
				if f.what == "breaks off, done" {
					count++
				}
				if keep == 0 {
					count = 0
				}
				then := opened(t, d, plain)
				checkKeys(t, then, slices.Sorted(slices.Values(inTurn[count:]))...)
				checkLast(t, then, 4+uint64(count))
			}
		}
	}
}
