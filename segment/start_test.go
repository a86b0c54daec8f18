package segment_test

import (
	"math"
	"testing"

	"salvor/api"
	"salvor/segment"
)

func TestStartWithinItsBounds(t *testing.T) {
	d := made(t, 0, file("seg-00000001.log", ""))
	for _, limit := range []int{64, 65, 1000, 1048575, 1048576} {
		for _, every := range []int{0, 1, 2, 999, 1000} {
			w := started(t, d, limit, every)
			checkNow(t, w, 0, 0)
			checkErrno(t, "Sync of a new one", w.Sync(), api.OK)
			checkNow(t, w, 0, 0)
		}
	}
	checkHas(t, d, 0, log(1, 0))
}

func TestStartOutOfItsBounds(t *testing.T) {
	d := made(t, 100)
	limits := []int{63, 62, 1, 0, -1, -64, 1048577, 1 << 21, 1<<32 + 64, math.MaxInt, math.MinInt, math.MinInt + 64}
	everies := []int{-1, -2, -1000, 1001, 1002, 1 << 32, 1<<32 + 1, math.MaxInt, math.MinInt, math.MinInt + 1}
	check := func(limit, every int) {
		if w, errno := segment.Start(d, limit, every); w != nil || errno != api.ErrSegmentArg {
			t.Errorf("Start(%d, %d) = %v, %d", limit, every, w, errno)
		}
	}
	for _, limit := range limits {
		for _, every := range append([]int{0, 1000}, everies...) {
			check(limit, every)
		}
	}
	for _, every := range everies {
		for _, limit := range append([]int{64, 1048576}, limits...) {
			check(limit, every)
		}
	}
	checkHas(t, d, 0)
}

// Start asks for nothing: not of a disk that fails, nor of one that is down.
func TestStartAsksForNoAct(t *testing.T) {
	d := made(t, 100)
	d.FailAt(1)
	w := started(t, d, 64, 1)
	checkNoPut(t, w, put(1, "k", "v"), api.ErrDiskIO) // it was the next act that failed
	d.BreakAt(1, false)
	d.Create("x")
	checkActs(t, d, 0, func() {
		w = started(t, d, 64, 1)
		checkErrno(t, "Sync of a new one", w.Sync(), api.OK)
		checkNow(t, w, 0, 0)
		checkErrno(t, "Close of a new one", w.Close(), api.OK)
	})
	checkShut(t, d, w)
	w = started(t, d, 64, 1)
	checkActs(t, d, 0, func() { checkNoPut(t, w, put(1, "k", "v"), api.ErrDiskDown) })
	d.Crash(0)
	checkShut(t, d, w)
	checkPut(t, started(t, d, 64, 1), put(1, "k", "v"), 1, 0)
}

// One that Start did not make has no disk to write to.
func TestAWriterThatWasNotStartedIsShut(t *testing.T) {
	w := &segment.Writer{}
	checkNow(t, w, 0, 0)
	checkShut(t, made(t, 0), w)
}
