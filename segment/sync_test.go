package segment_test

import (
	"testing"

	"salvor/api"
)

func TestSync(t *testing.T) {
	d := made(t, 1000)
	w := started(t, d, 64, 0)
	a, b, c := sized(t, 1, 20), sized(t, 2, 30), sized(t, 3, 40)
	checkActs(t, d, 0, func() { checkErrno(t, "Sync of a new one", w.Sync(), api.OK) })
	checkPut(t, w, a, 1, 0)
	checkErrno(t, "Sync", w.Sync(), api.OK)
	checkHas(t, d, 3, log(1, 1, a))
	checkActs(t, d, 0, func() { checkErrno(t, "Sync of nothing", w.Sync(), api.OK) })
	checkPut(t, w, b, 1, 20)
	checkHas(t, d, 4, log(1, 1, a, b))
	checkErrno(t, "Sync", w.Sync(), api.OK)
	checkNow(t, w, 1, 50)
	checkHas(t, d, 5, log(1, 2, a, b))
	checkPut(t, w, c, 2, 0)
	checkErrno(t, "Sync", w.Sync(), api.OK)
	checkNow(t, w, 2, 40)
	checkHas(t, d, 8, log(1, 2, a, b), log(2, 1, c))
	checkActs(t, d, 0, func() { checkErrno(t, "Sync of nothing", w.Sync(), api.OK) })
}

// What every has synced needs no other one.
func TestSyncBehindEvery(t *testing.T) {
	d := made(t, 1000)
	w := started(t, d, 64, 2)
	checkPut(t, w, sized(t, 1, 20), 1, 0)
	checkPut(t, w, sized(t, 2, 20), 1, 20)
	checkActs(t, d, 0, func() { checkErrno(t, "Sync of nothing", w.Sync(), api.OK) })
	checkPut(t, w, sized(t, 3, 20), 1, 40)
	checkErrno(t, "Sync", w.Sync(), api.OK)
	if d.Acts() != 6 || lasting(d) != 60 {
		t.Errorf("%d acts, %d bytes last", d.Acts(), lasting(d))
	}
}

// A Sync is of the writer's own segment alone.
func TestSyncLeavesOtherFilesAlone(t *testing.T) {
	d := made(t, 1000, file("x", "abc"))
	w, other := started(t, d, 64, 0), started(t, d, 64, 0)
	a, b := sized(t, 1, 20), sized(t, 2, 30)
	checkPut(t, w, a, 1, 0)
	checkPut(t, other, b, 2, 0)
	d.Append("x", []byte("de"))
	checkErrno(t, "Sync", w.Sync(), api.OK)
	if got := string(d.Lasting()[2].Data); got != "abc" {
		t.Errorf("of x lasts %q", got)
	}
	checkErrno(t, "Remove", d.Remove("x"), api.OK)
	checkHas(t, d, 7, log(1, 1, a), log(2, 0, b))
}

func TestNow(t *testing.T) {
	d := made(t, 1000, file("seg-00000001.hint", "as it was"))
	w := started(t, d, 64, 0)
	checkNow(t, w, 0, 0)
	checkNoPut(t, w, put(0, "k", "v"), api.ErrFrameLSN)
	checkNow(t, w, 0, 0)
	checkPut(t, w, sized(t, 1, 20), 2, 0)
	checkNow(t, w, 2, 20)
	checkPut(t, w, sized(t, 2, 44), 2, 20)
	checkNow(t, w, 2, 64)
	checkPut(t, w, sized(t, 3, 100), 3, 0)
	checkNow(t, w, 3, 100)
	checkActs(t, d, 0, func() { checkNow(t, w, 3, 100) })
	checkErrno(t, "Close", w.Close(), api.OK)
	checkNow(t, w, 3, 100)
	checkShut(t, d, w)
}

func TestCloseWithSomethingUnsynced(t *testing.T) {
	for _, every := range []int{0, 3} {
		d := made(t, 1000)
		w := started(t, d, 64, every)
		a, b := sized(t, 1, 20), sized(t, 2, 30)
		checkPut(t, w, a, 1, 0)
		checkPut(t, w, b, 1, 20)
		checkErrno(t, "Close", w.Close(), api.OK)
		checkHas(t, d, 4, log(1, 2, a, b))
		checkNow(t, w, 1, 50)
		checkShut(t, d, w)
	}
}

func TestCloseWithNothingUnsynced(t *testing.T) {
	d := made(t, 1000)
	w := started(t, d, 64, 0)
	checkActs(t, d, 0, func() { checkErrno(t, "Close of a new one", w.Close(), api.OK) })
	checkNow(t, w, 0, 0)
	checkShut(t, d, w)
	a := sized(t, 1, 20)
	w = started(t, d, 64, 1)
	checkPut(t, w, a, 1, 0)
	checkActs(t, d, 0, func() { checkErrno(t, "Close", w.Close(), api.OK) })
	checkShut(t, d, w)
	w = started(t, d, 64, 0)
	checkPut(t, w, a, 2, 0)
	checkErrno(t, "Sync", w.Sync(), api.OK)
	checkActs(t, d, 0, func() { checkErrno(t, "Close", w.Close(), api.OK) })
	checkShut(t, d, w)
	checkHas(t, d, 6, log(1, 1, a), log(2, 1, a))
}

// A segment at hand without bytes, since there was no room, has nothing to sync.
func TestCloseOfAnEmptySegment(t *testing.T) {
	d := made(t, 5)
	w := started(t, d, 64, 0)
	checkNoPut(t, w, put(1, "k", "v"), api.ErrDiskFull)
	checkActs(t, d, 0, func() { checkErrno(t, "Close", w.Close(), api.OK) })
	checkNow(t, w, 1, 0)
	checkShut(t, d, w)
}
