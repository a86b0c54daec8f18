package fast_test

import (
	"slices"
	"testing"

	"salvor/api"
	"salvor/fast"
	"salvor/keydir"
	"salvor/mend"
	"salvor/vdisk"
)

// salvaged holds what Salvage leaves of files, what it tells of them, and how many acts that takes; and that it is what the chapter's words ask for.
func salvaged(t *testing.T, l []api.File, acts int, report api.Report, then []api.File) *keydir.Dir {
	t.Helper()
	d := diskOf(t, room, l...)
	dir, got, errno := checkSalvage(t, d, diskOf(t, room, l...))
	if errno != api.OK || sayReport(got) != sayReport(report) {
		t.Errorf("Salvage of %s tells\n  %s, %d, want\n  %s", sayFiles(l), sayReport(got), errno, sayReport(report))
	}
	if d.Acts() != acts {
		t.Errorf("Salvage of %s: %d acts, want %d", sayFiles(l), d.Acts(), acts)
	}
	for _, now := range [][]api.File{d.Files(), d.Lasting()} {
		if !sameFiles(now, byNames(then)) {
			t.Errorf("Salvage of %s leaves\n  %s, want\n  %s", sayFiles(l), sayFiles(now), sayFiles(byNames(then)))
		}
	}
	return dir
}

// broken is a disk that has broken off, with nothing done.
func broken(t *testing.T, d *vdisk.Disk) *vdisk.Disk {
	t.Helper()
	d.BreakAt(1, false)
	if errno := d.Create("never"); errno != api.ErrDiskDown || !d.Down() {
		t.Fatalf("the disk is up")
	}
	return d
}

// messy is a directory in which everything is to be done, and one segment is believed.
func messy() []api.File {
	return slices.Concat(clean(2, put(9, "a", "z"), recB), with(4, lie(0, says(100, api.Put, "a"), recC), recC),
		files("x.tmp", "q", seg1, "x"+a+"y"+c, hint1, "z", seg3, whole(put(9, "a", "y"))+"y", "seg-00000009.hint", "o", "other", "rest", bad1, "old"))
}

func TestSalvageOfAnEmptyDisk(t *testing.T) {
	checkDir(t, salvaged(t, nil, 0, api.Report{}, nil))
	for _, capacity := range []int{0, 1, api.MaxDisk} {
		if dir, report, errno := fast.Salvage(diskOf(t, capacity)); dir == nil || errno != api.OK || sayReport(report) != sayReport(api.Report{}) {
			t.Errorf("of an empty disk of %d bytes: %s, %d", capacity, sayReport(report), errno)
		}
	}
}

// A disk that is believed whole: nothing is done, and what is armed stays armed.
func TestSalvageThatAsksForNothing(t *testing.T) {
	l := slices.Concat(clean(1, recA), clean(2, recB, put(7, "a", "rival")), files("other", "o"))
	dir := salvaged(t, l, 0, reportOf(7, 0, 0, believed(seg1, seg2)...), l)
	checkDir(t, dir, seen(recA, 1, 0), pointed(recB, 2, 0), seen(put(7, "a", "rival"), 2, len(b)))
	for _, f := range faults {
		d := diskOf(t, sumOf(l), l...)
		f.arm(d, 1)
		if _, _, errno := fast.Salvage(d); errno != api.OK || d.Acts() != 0 {
			t.Errorf("Salvage = %d, %d acts", errno, d.Acts())
		}
		if errno := d.Sync("other"); errno != f.want {
			t.Errorf("an act that %s: %d", f.what, errno)
		}
	}
}

func TestSalvageOfEverything(t *testing.T) {
	n, m := len(a), len(c)
	y9 := put(9, "a", "y")
	report := reportOf(9, 4, 3, account(seg1, api.HintDamaged, bad2, isJunk(0, 1), isFrame(1, n), isJunk(n+1, 1), isFrame(n+2, m)), believed(seg2)[0],
		account(seg3, api.HintMissing, "bad-00000003.bin", isFrame(0, len(whole(y9))), isJunk(len(whole(y9)), 1)), looked(seg4, api.HintForged, recC), orphan("seg-00000009.hint"))
	then := slices.Concat(clean(1, recA, recC), clean(2, put(9, "a", "z"), recB), clean(3, y9), clean(4, recC), files("other", "rest", bad1, "old", bad2, "xy", "bad-00000003.bin", "y"))
	dir := salvaged(t, messy(), 1+12+9+4+1, report, then)
	checkDir(t, dir, seen(recA, 1, 0), seen(recC, 1, n), seen(put(9, "a", "z"), 2, 0), pointed(recB, 2, len(whole(put(9, "a", "z")))), seen(y9, 3, 0), seen(recC, 4, 0))
}

func TestSalvageOfADiskThatIsDown(t *testing.T) {
	for _, l := range [][]api.File{nil, clean(1, recA), files(seg1, "x"+a+"y"), messy()} {
		for _, capacity := range []int{room, sumOf(l)} { // also without room enough: that is told later
			d := broken(t, diskOf(t, capacity, l...))
			before := sayDisk(d)
			for range 2 {
				dir, report, errno := fast.Salvage(d)
				if dir != nil || report.Files != nil || sayReport(report) != sayReport(api.Report{}) || errno != api.ErrDiskDown || sayDisk(d) != before {
					t.Errorf("Salvage of %s, which is down: %s, %d; then %s", before, sayReport(report), errno, sayDisk(d))
				}
			}
			d.Crash(0)
			if dir, _, errno := fast.Salvage(d); dir == nil && errno != api.ErrPlanFull {
				t.Errorf("when it is up again: %d", errno)
			}
		}
	}
}

// Plan's error, as it is: no act was asked for.
func TestSalvageWithoutRoom(t *testing.T) {
	for _, l := range [][]api.File{messy(), files(seg1, a), slices.Concat(clean(1, recA), with(2, lie(0, says(9, api.Put, "c"), recC), recC))} {
		p, _, errno := fast.Plan(l, room)
		if errno != api.OK {
			t.Fatalf("Plan of %s: %d", sayFiles(l), errno)
		}
		for _, capacity := range []int{sumOf(l), p.Peak - 1} {
			d := diskOf(t, capacity, l...)
			d.FailAt(1)
			before := sayDisk(d)
			dir, report, errno := fast.Salvage(d)
			if dir != nil || report.Files != nil || sayReport(report) != sayReport(api.Report{}) || errno != api.ErrPlanFull || sayDisk(d) != before {
				t.Errorf("Salvage of %s: %s, %d; then %s", before, sayReport(report), errno, sayDisk(d))
			}
			if errno := d.Create("new"); errno != api.ErrDiskIO {
				t.Errorf("the disk is armed no more: %d", errno)
			}
		}
		checkSalvage(t, diskOf(t, p.Peak, l...), diskOf(t, p.Peak, l...))
	}
	// bytes beyond what plan.Deep takes cannot be on a disk: ErrPlanArg is never told
	full := append(clean(1, recA), files("other", string(make([]byte, api.MaxDisk-len(a)-len(rightFor(recA)))))...)
	if dir, _, errno := fast.Salvage(diskOf(t, api.MaxDisk, full...)); dir == nil || errno != api.OK {
		t.Errorf("Salvage of a full disk: %d", errno)
	}
}

// An act that fails or breaks off: its error is told, and what was done stays done.
func TestSalvageWithAFaultAtEachAct(t *testing.T) {
	l := messy()
	d := diskOf(t, room, l...)
	fast.Salvage(d)
	acts := d.Acts()
	for n := 1; n <= acts+1; n++ {
		for _, f := range faults {
			one, other := diskOf(t, room, l...), diskOf(t, room, l...)
			f.arm(one, n)
			f.arm(other, n)
			dir, report, errno := checkSalvage(t, one, other)
			if n > acts {
				if errno != api.OK || one.Acts() != acts {
					t.Errorf("armed for later: %d, %d acts", errno, one.Acts())
				}
				continue
			}
			if dir != nil || report.Files != nil || sayReport(report) != sayReport(api.Report{}) || errno != f.want || one.Acts() != n {
				t.Errorf("when act %d %s: %s, %d, %d acts", n, f.what, sayReport(report), errno, one.Acts())
			}
		}
	}
}

// Bytes that do not last are looked at as others, and a hint file that is right for them is believed.
func TestSalvageOfBytesThatDoNotLast(t *testing.T) {
	fresh := func() *vdisk.Disk {
		return unsynced(t, diskOf(t, room, files(seg1, a, hint1, rightFor(recA, recB), seg2, c, hint2, rightFor(recC))...), files(seg1, b, seg2, "torn")...)
	}
	d := fresh()
	dir, report, errno := checkSalvage(t, d, fresh())
	if errno != api.OK || sayReport(report) != sayReport(reportOf(7, 1, 4, believed(seg1)[0], account(seg2, api.HintFine, bad1, isFrame(0, len(c)), isJunk(len(c), 4)))) {
		t.Errorf("Salvage tells %s, %d", sayReport(report), errno)
	}
	checkDir(t, dir, pointed(recA, 1, 0), pointed(recB, 1, len(a)), seen(recC, 2, 0))
}

// The directory is that of layer 12, but for what is Known, where every hint file tells the truth.
func TestSalvageAndMendsDeep(t *testing.T) {
	l := slices.Concat(clean(1, recA, recC), clean(2, put(9, "a", "z"), recB), files(seg3, "junk"+laid(put(9, "a", "y"), gone(6, "c"))))
	d, e := diskOf(t, room, l...), diskOf(t, room, l...)
	dir, report, errno := fast.Salvage(d)
	deep, deepReport, deepErrno := mend.Deep(e)
	if errno != api.OK || deepErrno != api.OK || report.Top != deepReport.Top || !sameFiles(d.Files(), e.Files()) {
		t.Fatalf("Salvage: %s, %d; Deep: %s, %d", sayReport(report), errno, sayReport(deepReport), deepErrno)
	}
	for _, key := range []string{"a", "bb", "c"} {
		got, _ := dir.Last(key)
		want, _ := deep.Last(key)
		if !got.Known {
			want.Known, want.Body = false, ""
		}
		if got != want {
			t.Errorf("of %q Salvage tells %+v, Deep %+v", key, got, want)
		}
	}
}
