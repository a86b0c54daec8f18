package store_test

import (
	"fmt"
	"strings"
	"testing"

	"salvor/api"
	"salvor/store"
	"salvor/vdisk"
)

// state is a store in some state, on its disk.
type state struct {
	what  string
	fresh func(t *testing.T) (*store.Store, *vdisk.Disk)
}

// spentOn is a store of two keys, with no number left.
func spentOn(t *testing.T) (*store.Store, *vdisk.Disk) {
	t.Helper()
	d := diskOf(t, room, clean(1, put(3, "a", "x"), put(spent, "b", "y"))...)
	return opened(t, d, plain), d
}

// broken is a store with a disk that has failed, with numbers left, or none.
func broken(top uint64) func(t *testing.T) (*store.Store, *vdisk.Disk) {
	return func(t *testing.T) (*store.Store, *vdisk.Disk) {
		t.Helper()
		d := diskOf(t, room, clean(1, put(3, "a", "x"), put(top, "c", "z"))...)
		s := opened(t, d, plain)
		checkError(t, s.Put("b", "y"), "Put", api.OK)
		d.FailAt(1)
		checkError(t, s.Sync(), "Sync", api.ErrDiskIO)
		return s, d
	}
}

func closed(fresh func(t *testing.T) (*store.Store, *vdisk.Disk)) func(t *testing.T) (*store.Store, *vdisk.Disk) {
	return func(t *testing.T) (*store.Store, *vdisk.Disk) {
		t.Helper()
		s, d := fresh(t)
		checkError(t, s.Close(), "Close", api.OK)
		return s, d
	}
}

// Of several errors the one is told that is named first; nothing is changed, and no act is asked for.
func TestWhichErrorPutTells(t *testing.T) {
	bad := []string{"", key65, strings.Repeat("k", 1000)}
	for _, x := range []struct {
		state
		key, value, all api.Errno // of a key that may not be, of a value, of neither
	}{
		{state{"spent", spentOn}, api.ErrStoreKey, api.ErrStoreValue, api.ErrStoreSpent},
		{state{"broken", broken(7)}, api.ErrStoreKey, api.ErrStoreValue, api.ErrStoreBroken},
		{state{"broken and spent", broken(spent - 1)}, api.ErrStoreKey, api.ErrStoreValue, api.ErrStoreBroken},
		{state{"closed", closed(spentOn)}, api.ErrStoreClosed, api.ErrStoreClosed, api.ErrStoreClosed},
		{state{"closed, broken and spent", closed(broken(spent - 1))}, api.ErrStoreClosed, api.ErrStoreClosed, api.ErrStoreClosed},
	} {
		s, d := x.fresh(t)
		before, disk, last := told(s), sayDisk(d), s.Last()
		acts := d.Acts()
		for _, key := range bad {
			for _, value := range []string{"", "v", value49} {
				checkError(t, s.Put(key, value), "Put", x.key)
			}
		}
		for _, key := range []string{"a", "new", key64} {
			checkError(t, s.Put(key, value49), "Put", x.value)
			checkError(t, s.Put(key, strings.Repeat("v", 100000)), "Put", x.value)
			checkError(t, s.Put(key, value48), "Put", x.all)
			checkError(t, s.Put(key, ""), "Put", x.all)
		}
		if d.Acts() != acts || s.Last() != last || told(s) != before {
			t.Errorf("%s: %s, was %s; on the disk %s, was %s", x.what, told(s), before, sayDisk(d), disk)
		}
	}
}

// Keys of 1 to 64 bytes, values of 0 to 2048, any bytes.
func TestPutOfAnyBytes(t *testing.T) {
	d := diskOf(t, 1<<20)
	s := opened(t, d, api.Config{Limit: 64})
	want := map[string]string{}
	var records []api.Record
	for i, key := range []string{"a", "b", key64, key64[1:] + "l", "\x00", "\xa7", "\xa6\xa6", strings.Repeat("\xa7", 64), "\xff\xfe", "a\x00", " ", "ä"} {
		for k, value := range []string{"", "v", value48, value48[1:], strings.Repeat("\xa7", 2048), strings.Repeat("\xa6", 2047) + "\x01", "\x00", whole(put(9, "x", "y"))} {
			checkError(t, s.Put(key, value), "Put", api.OK)
			want[key] = value
			records = append(records, put(uint64(8*i+k+1), key, value))
			checkLast(t, s, uint64(len(records)))
			checkGet(t, s, key, value)
		}
	}
	checkMap(t, s, want)
	var got []api.Record
	for _, f := range factsOf(d.Files()) {
		got = append(got, f.record)
	}
	if fmt.Sprint(got) != fmt.Sprint(records) {
		t.Errorf("on the disk there are other records")
	}
	checkError(t, s.Close(), "Close", api.OK)
	for _, fast := range []bool{false, true} {
		checkMap(t, opened(t, d, api.Config{Limit: 64, Fast: fast}), want)
	}
}

// The records are the writer's frames, in their order, each with the next number.
func TestPutWrites(t *testing.T) {
	d := diskOf(t, room, clean(3, put(41, "old", "v"))...)
	s := opened(t, d, ample)
	for _, r := range []api.Record{put(42, "a", "1"), put(43, "a", "1"), put(44, "b", ""), put(45, "old", "w")} {
		checkError(t, s.Put(r.Key, r.Value), "Put", api.OK)
		checkLast(t, s, r.LSN)
	}
	checkFile(t, d, seg1, laid(put(42, "a", "1"), put(43, "a", "1"), put(44, "b", ""), put(45, "old", "w")))
	checkMap(t, s, map[string]string{"a": "1", "b": "", "old": "w"})
}

// The numbers next to the greatest one.
func TestPutUpToTheGreatestNumber(t *testing.T) {
	for ahead := range uint64(4) {
		d := diskOf(t, room, clean(1, put(spent-ahead, "a", "x"))...)
		s := opened(t, d, plain)
		for n := range ahead {
			checkError(t, s.Put("b", fmt.Sprint(n)), "Put", api.OK)
			checkLast(t, s, spent-ahead+n+1)
			checkGet(t, s, "b", fmt.Sprint(n))
		}
		for range 2 {
			checkError(t, s.Put("a", "y"), "Put", api.ErrStoreSpent)
			checkError(t, s.Put("c", "y"), "Put", api.ErrStoreSpent)
		}
		checkLast(t, s, spent)
		checkGet(t, s, "a", "x")
		checkError(t, s.Sync(), "Sync", api.OK)
		checkError(t, s.Merge(), "Merge", api.OK)
		checkError(t, s.Put("c", "y"), "Put", api.ErrStoreSpent)
		checkGet(t, s, "a", "x")
		checkError(t, s.Close(), "Close", api.OK)
		checkLast(t, opened(t, d, api.Config{Limit: 64, Fast: true}), spent)
	}
}

// A number is used again when the writer told an error; what another step of the writer has done stays done.
func TestPutOnAFullDisk(t *testing.T) {
	one := whole(put(1, "a", strings.Repeat("x", 40)))
	d := diskOf(t, len(one)+20)
	s := opened(t, d, api.Config{Limit: 64})
	checkError(t, s.Put("a", strings.Repeat("x", 40)), "Put", api.OK)
	checkError(t, s.Put("b", strings.Repeat("x", 40)), "Put", api.ErrDiskFull)
	checkFile(t, d, seg2, "") // it was begun
	checkLast(t, s, 1)
	checkKeys(t, s, "a")
	checkNone(t, s, "b", api.OK)
	checkError(t, s.Put("b", ""), "Put", api.OK)
	checkError(t, s.Put("b", ""), "Put", api.ErrDiskFull)
	checkFile(t, d, seg2, laid(put(2, "b", "")))
	checkLast(t, s, 2)
	checkError(t, s.Delete("a"), "Delete", api.ErrDiskFull)
	checkMap(t, s, map[string]string{"a": strings.Repeat("x", 40), "b": ""})
	checkError(t, s.Sync(), "Sync", api.OK) // it is not broken
	checkError(t, s.Merge(), "Merge", api.OK)
	checkMap(t, s, map[string]string{"a": strings.Repeat("x", 40), "b": ""})
}
