package merge_test

import (
	"math"
	"slices"
	"testing"

	"salvor/api"
	"salvor/merge"
	"salvor/plan"
	"salvor/vdisk"
)

// broken is a disk that has broken off, with nothing done.
func broken(t *testing.T, d *vdisk.Disk) *vdisk.Disk {
	t.Helper()
	d.BreakAt(1, false)
	if errno := d.Create("never"); errno != api.ErrDiskDown || !d.Down() {
		t.Fatalf("the disk is up")
	}
	return d
}

// messy is a directory in which everything is to be done, and much stays.
func messy() []api.File {
	return slices.Concat(clean(1, put(1, "a", "x"), gone(6, "b"), put(3, "c", "")), clean(3, put(5, "a", "y"), put(2, "b", "hidden")),
		files(seg2, "junk"+laid(gone(9, "c"), put(4, "d", "z"))+foot, seg4, "", hint4, "orphans", "seg-00000009.hint", "o", "other", "rest", "bad-00000001.bin", "old", "seg-00000005.log.tmp", "torn"))
}

// merged holds what Run leaves of files, and how many acts that takes.
func merged(t *testing.T, l []api.File, size, acts int, then []api.File) {
	t.Helper()
	d := diskOf(t, room, l...)
	if errno := checkRun(t, d, diskOf(t, room, l...), size); errno != api.OK || d.Acts() != acts {
		t.Errorf("Run of %s: %d, %d acts, want %d", sayFiles(l), errno, d.Acts(), acts)
	}
	for _, now := range [][]api.File{d.Files(), d.Lasting()} {
		if !sameFiles(now, byNames(then)) {
			t.Errorf("Run of %s leaves\n  %s, want\n  %s", sayFiles(l), sayFiles(now), sayFiles(byNames(then)))
		}
	}
}

func TestRun(t *testing.T) {
	merged(t, nil, 64, 0, nil)
	merged(t, messy()[8:], 64, 0, messy()[8:])
	merged(t, clean(1, put(1, "a", "x")), 64, 0, clean(1, put(1, "a", "x")))
	merged(t, clean(1, put(1, "a", "x"), put(2, "a", "y")), 64, 8+2, clean(2, put(2, "a", "y")))
	merged(t, segments("", ""), 64, 2, nil)
	// d counts in the segment that is no old one; c is deleted there, and what is deleted here is not in it
	kept := files(seg2, "junk"+laid(gone(9, "c"), put(4, "d", "z"))+foot, "seg-00000009.hint", "o", "other", "rest", "bad-00000001.bin", "old", "seg-00000005.log.tmp", "torn")
	merged(t, messy(), 64, 8+6, append(clean(6, put(5, "a", "y"), gone(6, "b")), kept...))
}

func TestRunOfASizeThatMayNotBe(t *testing.T) {
	for _, size := range []int{63, 1048577, 0, -1, math.MinInt, math.MaxInt, 1 << 32} {
		for _, fresh := range []func() *vdisk.Disk{
			func() *vdisk.Disk { return diskOf(t, room) },
			func() *vdisk.Disk { return diskOf(t, room, messy()...) },
			func() *vdisk.Disk { return diskOf(t, sumOf(messy()), messy()...) },
			func() *vdisk.Disk { return broken(t, diskOf(t, room, messy()...)) }, // told ahead of ErrDiskDown
		} {
			d := fresh()
			before := sayDisk(d)
			if errno := checkRun(t, d, fresh(), size); errno != api.ErrMergeArg || sayDisk(d) != before {
				t.Errorf("Run of %s, %d: %d; then %s", before, size, errno, sayDisk(d))
			}
		}
	}
	for _, size := range []int{64, 1048576} {
		if errno := checkRun(t, diskOf(t, room, messy()...), diskOf(t, room, messy()...), size); errno != api.OK {
			t.Errorf("Run of %d: %d", size, errno)
		}
	}
}

func TestRunOfADiskThatIsDown(t *testing.T) {
	for _, l := range [][]api.File{nil, clean(1, put(1, "a", "x")), messy()} {
		for _, capacity := range []int{room, sumOf(l)} { // also without room enough: that is told later
			d := broken(t, diskOf(t, capacity, l...))
			before := sayDisk(d)
			for range 2 {
				if errno := merge.Run(d, 64); errno != api.ErrDiskDown || sayDisk(d) != before {
					t.Errorf("Run of %s, which is down: %d; then %s", before, errno, sayDisk(d))
				}
			}
			d.Crash(0)
			if errno := merge.Run(d, 64); errno != api.OK && errno != api.ErrPlanFull {
				t.Errorf("when it is up again: %d", errno)
			}
		}
	}
}

// Plan's error, as it is: no act was asked for.
func TestRunWithoutRoom(t *testing.T) {
	for _, l := range [][]api.File{messy(), segments(laid(put(1, "a", "x"), put(2, "b", "y")), laid(put(3, "a", "")))} {
		p, errno := merge.Plan(l, 64, room)
		if errno != api.OK {
			t.Fatalf("Plan of %s: %d", sayFiles(l), errno)
		}
		for _, capacity := range []int{sumOf(l), p.Peak - 1} {
			d := diskOf(t, capacity, l...)
			d.FailAt(1)
			before := sayDisk(d)
			if errno := merge.Run(d, 64); errno != api.ErrPlanFull || sayDisk(d) != before {
				t.Errorf("Run of %s: %d; then %s", before, errno, sayDisk(d))
			}
			if errno := d.Create("new"); errno != api.ErrDiskIO {
				t.Errorf("the disk is armed no more: %d", errno)
			}
		}
		if errno := checkRun(t, diskOf(t, p.Peak, l...), diskOf(t, p.Peak, l...), 64); errno != api.OK {
			t.Errorf("Run of %s with just enough room: %d", sayFiles(l), errno)
		}
	}
	// where nothing is to be done, no room is needed
	l := clean(1, put(1, "a", "x"))
	if errno := checkRun(t, diskOf(t, sumOf(l), l...), diskOf(t, sumOf(l), l...), 64); errno != api.OK {
		t.Errorf("Run of a full disk: %d", errno)
	}
}

// Where nothing is to be done no act is asked for, and what is armed stays armed.
func TestRunThatAsksForNothing(t *testing.T) {
	l := slices.Concat(clean(1, put(1, "a", "x")), files("other", "o", seg2, "junk"))
	for _, f := range faults {
		d := diskOf(t, room, l...)
		f.arm(d, 1)
		if errno := merge.Run(d, 64); errno != api.OK || d.Acts() != 0 || !sameFiles(d.Files(), byNames(l)) {
			t.Errorf("Run = %d, %d acts", errno, d.Acts())
		}
		if errno := d.Sync("other"); errno != f.want {
			t.Errorf("an act that %s: %d", f.what, errno)
		}
	}
}

// An act that fails or breaks off: its error is told, and what was done stays done.
func TestRunWithAFaultAtEachAct(t *testing.T) {
	l := messy()
	d := diskOf(t, room, l...)
	merge.Run(d, 64)
	acts := d.Acts()
	for n := 1; n <= acts+1; n++ {
		for _, f := range faults {
			one, other := diskOf(t, room, l...), diskOf(t, room, l...)
			f.arm(one, n)
			f.arm(other, n)
			errno := checkRun(t, one, other, 64)
			if n > acts && (errno != api.OK || one.Acts() != acts) {
				t.Errorf("armed for later: %d, %d acts", errno, one.Acts())
			}
			if n <= acts && (errno != f.want || one.Acts() != n) {
				t.Errorf("when act %d %s: %d, %d acts", n, f.what, errno, one.Acts())
			}
		}
	}
}

// Bytes that do not last are looked at as others; what is written of them lasts.
func TestRunOfBytesThatDoNotLast(t *testing.T) {
	fresh := func() *vdisk.Disk {
		d := diskOf(t, room, files(seg1, laid(put(1, "a", "x")), seg2, laid(put(2, "b", "y")))...)
		d.Append(seg1, []byte(laid(put(3, "a", "z"))))
		d.Append(seg2, []byte("torn"))
		return d
	}
	d := fresh()
	if errno := checkRun(t, d, fresh(), 64); errno != api.OK {
		t.Fatalf("Run: %d", errno)
	}
	d.Crash(0)
	if want := append(clean(3, put(3, "a", "z")), files(seg2, laid(put(2, "b", "y")))...); !sameFiles(d.Files(), byNames(want)) {
		t.Errorf("then there is %s", sayFiles(d.Files()))
	}
}

// Run does what Plan says, of the disk's files and capacity.
func TestRunAndPlan(t *testing.T) {
	r := source()
	for range 300 {
		l := anyDirectory(r)
		size, capacity := pick(r, sizes...), sumOf(l)+r.Intn(400)
		d := diskOf(t, capacity, l...)
		p, want := merge.Plan(d.Files(), size, capacity)
		errno := merge.Run(d, size)
		now, _ := plan.Apply(l, p.Steps...)
		if errno != want || !sameFiles(d.Files(), now) {
			t.Fatalf("Run of %s, %d: %d, want %d; then %s, want %s", sayFiles(l), size, errno, want, sayFiles(d.Files()), sayFiles(now))
		}
	}
}
