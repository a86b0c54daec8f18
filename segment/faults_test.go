package segment_test

import (
	"fmt"
	"testing"

	"salvor/api"
	"salvor/segment"
	"salvor/vdisk"
)

// fault is how an act comes to nothing, or seems to.
type fault struct {
	what string
	arm  func(d *vdisk.Disk, n int)
	want api.Errno
	done bool
}

var faults = []fault{
	{"fails", func(d *vdisk.Disk, n int) { d.FailAt(n) }, api.ErrDiskIO, false},
	{"breaks off", func(d *vdisk.Disk, n int) { d.BreakAt(n, false) }, api.ErrDiskDown, false},
	{"breaks off, done", func(d *vdisk.Disk, n int) { d.BreakAt(n, true) }, api.ErrDiskDown, true},
}

// state is what is to be seen behind an act: what the disk has, and what the writer tells.
type state struct {
	files  []holds
	number uint32
	size   int
}

// checkFaults has each act of a call come to nothing in each way. states[n] is what is to be seen behind n of its acts; the last one is behind all.
func checkFaults(t *testing.T, ahead func(d *vdisk.Disk) *segment.Writer, call func(w *segment.Writer) api.Errno, states ...state) {
	t.Helper()
	for n := 1; n < len(states); n++ {
		for _, f := range faults {
			d := made(t, 1000)
			w := ahead(d)
			acts := d.Acts()
			f.arm(d, n)
			what := fmt.Sprintf("a call whose act %d %s", n, f.what)
			checkErrno(t, what, call(w), f.want)
			before, has := states[n-1], states[n-1].files
			if f.done {
				has = states[n].files
			}
			checkHas(t, d, acts+n, has...)
			checkNow(t, w, before.number, before.size)
			checkShut(t, d, w)
			d.Crash(1000)
			checkShut(t, d, w)
			checkNow(t, w, before.number, before.size)
			if t.Failed() {
				t.Fatalf("of %s", what)
			}
		}
	}
	d := made(t, 1000)
	w := ahead(d)
	acts := d.Acts()
	checkErrno(t, "a call of which no act fails", call(w), api.OK)
	behind := states[len(states)-1]
	checkHas(t, d, acts+len(states)-1, behind.files...)
	checkNow(t, w, behind.number, behind.size)
}

// putting is a Put of a record, of which the error alone is told, and no place beside one.
func putting(t *testing.T, r api.Record) func(w *segment.Writer) api.Errno {
	return func(w *segment.Writer) api.Errno {
		p, errno := w.Put(r)
		if errno != api.OK && p != (api.Place{}) {
			t.Errorf("Put = %v, %d", p, errno)
		}
		return errno
	}
}

// behind is a writer that has put some records.
func behind(t *testing.T, limit, every int, records ...api.Record) func(d *vdisk.Disk) *segment.Writer {
	return func(d *vdisk.Disk) *segment.Writer {
		w := started(t, d, limit, every)
		for _, r := range records {
			if _, errno := w.Put(r); errno != api.OK {
				t.Fatalf("Put(%s): %d", said(r), errno)
			}
		}
		return w
	}
}

func TestFaultsOfTheFirstPut(t *testing.T) {
	a := sized(t, 1, 20)
	none := state{nil, 0, 0}
	created := state{[]holds{log(1, 0)}, 1, 0}
	laid := state{[]holds{log(1, 0, a)}, 1, 20}
	synced := state{[]holds{log(1, 1, a)}, 1, 20}
	checkFaults(t, behind(t, 64, 0), putting(t, a), none, created, laid)
	checkFaults(t, behind(t, 64, 1), putting(t, a), none, created, laid, synced)
	checkFaults(t, behind(t, 64, 2), putting(t, a), none, created, laid)
}

func TestFaultsOfAPutIntoTheSegmentAtHand(t *testing.T) {
	a, b := sized(t, 1, 20), sized(t, 2, 30)
	one := state{[]holds{log(1, 0, a)}, 1, 20}
	two := state{[]holds{log(1, 0, a, b)}, 1, 50}
	synced := state{[]holds{log(1, 2, a, b)}, 1, 50}
	checkFaults(t, behind(t, 64, 0, a), putting(t, b), one, two)
	checkFaults(t, behind(t, 64, 2, a), putting(t, b), one, two, synced)
	checkFaults(t, behind(t, 64, 3, a), putting(t, b), one, two)
}

func TestFaultsOfAPutIntoAnotherSegment(t *testing.T) {
	a, b, c := sized(t, 1, 20), sized(t, 2, 30), sized(t, 3, 40)
	loose := state{[]holds{log(1, 0, a, b)}, 1, 50}
	left := state{[]holds{log(1, 2, a, b)}, 1, 50}
	created := state{[]holds{log(1, 2, a, b), log(2, 0)}, 2, 0}
	laid := state{[]holds{log(1, 2, a, b), log(2, 0, c)}, 2, 40}
	synced := state{[]holds{log(1, 2, a, b), log(2, 1, c)}, 2, 40}
	checkFaults(t, behind(t, 64, 0, a, b), putting(t, c), loose, left, created, laid)
	checkFaults(t, behind(t, 64, 3, a, b), putting(t, c), loose, left, created, laid)
	checkFaults(t, behind(t, 64, 2, a, b), putting(t, c), left, created, laid)
	checkFaults(t, behind(t, 64, 1, a, b), putting(t, c), left, created, laid, synced)
}

func TestFaultsOfSyncAndClose(t *testing.T) {
	a, b := sized(t, 1, 20), sized(t, 2, 30)
	loose := state{[]holds{log(1, 0, a, b)}, 1, 50}
	synced := state{[]holds{log(1, 2, a, b)}, 1, 50}
	checkFaults(t, behind(t, 64, 0, a, b), (*segment.Writer).Sync, loose, synced)
	checkFaults(t, behind(t, 64, 3, a, b), (*segment.Writer).Sync, loose, synced)
	checkFaults(t, behind(t, 64, 0, a, b), (*segment.Writer).Close, loose, synced)
	checkFaults(t, behind(t, 64, 3, a, b), (*segment.Writer).Close, loose, synced)
	half := state{[]holds{log(1, 0, a)}, 1, 20}
	other := state{[]holds{log(1, 1, a)}, 1, 20}
	checkFaults(t, behind(t, 64, 2, a), (*segment.Writer).Sync, half, other)
}

// A disk that went down by what somebody else asked for breaks a writer when it asks for something, not before.
func TestADiskThatIsDown(t *testing.T) {
	a := sized(t, 1, 20)
	for what, call := range map[string]func(w *segment.Writer) api.Errno{
		"Put": putting(t, a), "Put into another segment": putting(t, sized(t, 1, 60)), "Sync": (*segment.Writer).Sync, "Close": (*segment.Writer).Close,
	} {
		d := made(t, 1000)
		w := behind(t, 64, 0, a)(d)
		d.BreakAt(1, false)
		d.Create("x")
		checkActs(t, d, 0, func() { checkErrno(t, what, call(w), api.ErrDiskDown) })
		checkShut(t, d, w)
		d.Crash(1000)
		checkShut(t, d, w)
		checkNow(t, w, 1, 20)
	}
	// nothing is asked for, and so nothing is broken
	d := made(t, 1000)
	w := behind(t, 64, 1, a)(d)
	d.BreakAt(1, false)
	d.Create("x")
	checkErrno(t, "Sync of nothing", w.Sync(), api.OK)
	d.Crash(0)
	checkPut(t, w, a, 1, 20)
}

// A writer that is broken leaves the disk to others.
func TestAnotherWriterBehindABrokenOne(t *testing.T) {
	a, b := sized(t, 1, 20), sized(t, 2, 30)
	d := made(t, 1000)
	w := behind(t, 64, 0, a)(d)
	d.FailAt(1)
	checkNoPut(t, w, b, api.ErrDiskIO)
	other := started(t, d, 64, 0)
	checkPut(t, other, b, 2, 0)
	checkPut(t, other, a, 2, 30)
	checkErrno(t, "Close", other.Close(), api.OK)
	checkShut(t, d, w)
	checkHas(t, d, 7, log(1, 0, a), log(2, 2, b, a))
}
