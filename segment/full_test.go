package segment_test

import (
	"testing"

	"salvor/api"
)

// No room for the frame: that is told, and a shorter one may come through.
func TestPutOnAFullDisk(t *testing.T) {
	d := made(t, 50)
	w := started(t, d, 1000, 0)
	a, long, just := sized(t, 1, 20), sized(t, 2, 31), sized(t, 2, 30)
	checkPut(t, w, a, 1, 0)
	for range 3 {
		checkActs(t, d, 0, func() { checkNoPut(t, w, long, api.ErrDiskFull) })
		checkNow(t, w, 1, 20)
	}
	checkHas(t, d, 2, log(1, 0, a))
	checkPut(t, w, just, 1, 20)
	checkHas(t, d, 3, log(1, 0, a, just))
	checkActs(t, d, 0, func() { checkNoPut(t, w, sized(t, 3, 13), api.ErrDiskFull) })
	checkErrno(t, "Sync", w.Sync(), api.OK)
	checkErrno(t, "Close", w.Close(), api.OK)
	checkHas(t, d, 4, log(1, 2, a, just))
}

// The segment that was created ahead is at hand, and stays so.
func TestTheFirstPutOnAFullDisk(t *testing.T) {
	d := made(t, 20)
	w := started(t, d, 64, 1)
	checkNoPut(t, w, sized(t, 1, 21), api.ErrDiskFull)
	checkNow(t, w, 1, 0)
	checkHas(t, d, 1, log(1, 0))
	checkActs(t, d, 0, func() {
		checkNoPut(t, w, sized(t, 1, 21), api.ErrDiskFull)
		checkNoPut(t, w, sized(t, 1, 100), api.ErrDiskFull)
		checkErrno(t, "Sync of nothing", w.Sync(), api.OK)
	})
	checkNow(t, w, 1, 0)
	checkPut(t, w, sized(t, 1, 20), 1, 0)
	checkHas(t, d, 3, log(1, 1, sized(t, 1, 20)))
}

// The segment at hand was left for another one, though there is no room in that: what was done ahead stays done.
func TestPutIntoAnotherSegmentOnAFullDisk(t *testing.T) {
	for _, every := range []int{0, 1, 2} {
		d := made(t, 70)
		w := started(t, d, 64, every)
		a, long, short := sized(t, 1, 50), sized(t, 2, 21), sized(t, 2, 13)
		acts := 3 // Create, Append, and a Sync: of the first Put, or of the second
		checkPut(t, w, a, 1, 0)
		checkNoPut(t, w, long, api.ErrDiskFull)
		checkNow(t, w, 2, 0)
		checkHas(t, d, acts+1, log(1, 1, a), log(2, 0))
		checkActs(t, d, 0, func() { checkNoPut(t, w, long, api.ErrDiskFull) })
		checkNow(t, w, 2, 0)
		checkPut(t, w, short, 2, 0) // not into the first one, in which there would be room
		if every == 1 {
			checkHas(t, d, acts+3, log(1, 1, a), log(2, 1, short))
		} else {
			checkHas(t, d, acts+2, log(1, 1, a), log(2, 0, short))
		}
	}
}

// A disk without any room takes no record; with room again it does.
func TestPutOnADiskThatHasRoomAgain(t *testing.T) {
	d := made(t, 40, file("x", "0123456789012345678901234567890123456789"))
	w := started(t, d, 64, 0)
	a := sized(t, 1, 20)
	checkNoPut(t, w, a, api.ErrDiskFull)
	checkNoPut(t, w, a, api.ErrDiskFull)
	checkErrno(t, "Truncate", d.Truncate("x", 21), api.OK)
	checkNoPut(t, w, a, api.ErrDiskFull)
	checkErrno(t, "Truncate", d.Truncate("x", 20), api.OK)
	checkPut(t, w, a, 1, 0)
	checkErrno(t, "Remove", d.Remove("x"), api.OK)
	checkPut(t, w, a, 1, 20)
	checkNoPut(t, w, a, api.ErrDiskFull)
	checkHas(t, d, 6, log(1, 0, a, a))
}
