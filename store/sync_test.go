package store_test

import (
	"testing"

	"salvor/api"
	"salvor/vdisk"
)

func lastsWhole(d *vdisk.Disk) bool { return sumOf(d.Files()) == sumOf(d.Lasting()) }

// Behind a Sync, a Merge and a Close all lasts that was answered; behind a Put it need not.
func TestWhatMakesLast(t *testing.T) {
	calls := []call{{what: "Sync"}, {what: "Merge"}, {what: "Close"}}
	for _, x := range calls {
		d := diskOf(t, room)
		k := desk{d, []keeping{opened(t, d, ample)}, openReal}
		s := k.stores[0]
		checkError(t, s.Put("a", "1"), "Put", api.OK)
		checkError(t, s.Put("b", "2"), "Put", api.OK)
		checkError(t, s.Delete("a"), "Delete", api.OK)
		if lastsWhole(d) {
			t.Errorf("all lasts ahead of %s", x.what)
		}
		if answer := k.ask(x); answer != "nil" || !lastsWhole(d) {
			t.Errorf("%s tells %s, and there is %s", x.what, answer, sayDisk(d))
		}
		d.Crash(0)
		then := opened(t, d, plain)
		checkMap(t, then, map[string]string{"b": "2"})
		checkLast(t, then, 3)
	}
}

// Sync asks for nothing, if nothing is to be synced; else for one act.
func TestSyncAsksForOneAct(t *testing.T) {
	d := diskOf(t, room, clean(1, put(1, "a", "x"))...)
	s := opened(t, d, ample)
	for n := range 4 {
		before := d.Acts()
		checkError(t, s.Sync(), "Sync", api.OK)
		if d.Acts()-before != n%2 {
			t.Errorf("Sync %d: %d acts", n, d.Acts()-before)
		}
		if n%2 == 0 {
			checkError(t, s.Put("b", "y"), "Put", api.OK)
		}
	}
	checkError(t, s.Sync(), "Sync", api.OK)
	d.BreakAt(1, false)
	d.Create("x")
	checkError(t, s.Sync(), "Sync", api.OK) // nothing is asked for, and the disk's being down not seen
	checkError(t, s.Put("b", "z"), "Put", api.ErrDiskDown)
	checkError(t, s.Sync(), "Sync", api.ErrStoreBroken)
}

// Of a closed store, of a broken one: told in this order, and no act is asked for.
func TestWhichErrorSyncMergeAndCloseTell(t *testing.T) {
	for _, x := range []struct {
		state
		want, ofClose api.Errno
	}{
		{state{"broken", broken(7)}, api.ErrStoreBroken, api.OK},
		{state{"broken and spent", broken(spent - 1)}, api.ErrStoreBroken, api.OK},
		{state{"closed", closed(spentOn)}, api.ErrStoreClosed, api.ErrStoreClosed},
		{state{"closed and broken", closed(broken(7))}, api.ErrStoreClosed, api.ErrStoreClosed},
	} {
		s, d := x.fresh(t)
		before, last := told(s), s.Last()
		acts := d.Acts()
		for range 2 {
			checkError(t, s.Sync(), "Sync", x.want)
			checkError(t, s.Merge(), "Merge", x.want)
		}
		if d.Acts() != acts || told(s) != before {
			t.Errorf("%s: %s, was %s", x.what, told(s), before)
		}
		acts = d.Acts()
		checkError(t, s.Close(), "Close", x.ofClose)
		if d.Acts() != acts || s.Last() != last {
			t.Errorf("%s, closed: %d acts, last %d", x.what, d.Acts()-acts, s.Last())
		}
	}
}

// Whatever Close tells, the store is closed; what a store tells that is.
func TestClose(t *testing.T) {
	for _, x := range []struct {
		what string
		arm  func(d *vdisk.Disk)
		want api.Errno
	}{
		{"well", func(d *vdisk.Disk) {}, api.OK},
		{"fails", func(d *vdisk.Disk) { d.FailAt(1) }, api.ErrDiskIO},
		{"breaks off", func(d *vdisk.Disk) { d.BreakAt(1, false) }, api.ErrDiskDown},
		{"breaks off, done", func(d *vdisk.Disk) { d.BreakAt(1, true) }, api.ErrDiskDown},
		{"gone", func(d *vdisk.Disk) { d.Remove(seg2) }, api.ErrDiskNone},
	} {
		d := diskOf(t, room, clean(1, put(1, "a", "x"))...)
		s := opened(t, d, ample)
		checkError(t, s.Put("b", "y"), "Put", api.OK)
		x.arm(d)
		checkError(t, s.Close(), "Close", x.want)
		acts := d.Acts()
		for range 2 {
			checkError(t, s.Close(), "Close", api.ErrStoreClosed)
			checkError(t, s.Put("a", "z"), "Put", api.ErrStoreClosed)
			checkError(t, s.Put("", value49), "Put", api.ErrStoreClosed)
			checkError(t, s.Delete("a"), "Delete", api.ErrStoreClosed)
			checkError(t, s.Delete(""), "Delete", api.ErrStoreClosed)
			checkError(t, s.Delete(), "Delete", api.ErrStoreClosed)
			checkError(t, s.Sync(), "Sync", api.ErrStoreClosed)
			checkError(t, s.Merge(), "Merge", api.ErrStoreClosed)
			checkNone(t, s, "a", api.ErrStoreClosed)
			checkNone(t, s, "", api.ErrStoreClosed)
			checkMap(t, s, nil)
			checkLast(t, s, 2)
		}
		if d.Acts() != acts {
			t.Errorf("%s: a closed store has asked for %d acts", x.what, d.Acts()-acts)
		}
	}
}

// A store that is closed, and another one that is opened on its disk: they know nothing of one another.
func TestCloseAndOpenAgain(t *testing.T) {
	d := diskOf(t, room)
	one := opened(t, d, plain)
	checkError(t, one.Put("a", "1"), "Put", api.OK)
	checkError(t, one.Close(), "Close", api.OK)
	two := opened(t, d, plain)
	checkError(t, two.Put("a", "2"), "Put", api.OK)
	checkError(t, one.Put("a", "3"), "Put", api.ErrStoreClosed)
	checkLast(t, one, 1)
	checkKeys(t, one)
	checkGet(t, two, "a", "2")
	checkLast(t, two, 2)
}

// A store that is of nothing, not opened, is as a closed one.
func TestStoreThatWasNotOpened(t *testing.T) {
	s := empty()
	checkError(t, s.Put("a", "1"), "Put", api.ErrStoreClosed)
	checkError(t, s.Delete("a"), "Delete", api.ErrStoreClosed)
	checkError(t, s.Sync(), "Sync", api.ErrStoreClosed)
	checkError(t, s.Merge(), "Merge", api.ErrStoreClosed)
	checkError(t, s.Close(), "Close", api.ErrStoreClosed)
	checkNone(t, s, "a", api.ErrStoreClosed)
	checkMap(t, s, nil)
	checkLast(t, s, 0)
}
