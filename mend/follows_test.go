package mend_test

import (
	"bytes"
	"math"
	"slices"
	"strings"
	"testing"

	"salvor/api"
	"salvor/keydir"
	"salvor/mend"
	"salvor/names"
	"salvor/vdisk"
)

// dirWorth is of each key the body of the record that counts, as a directory tells it.
func dirWorth(t *testing.T, dir *keydir.Dir, keys []string) []string {
	t.Helper()
	var bodies []string
	for _, key := range keys {
		s, errno := dir.Last(key)
		if errno != api.OK || !s.Known {
			t.Fatalf("of %q it tells %+v, %d", key, s, errno)
		}
		bodies = append(bodies, key+"\x00"+s.Body)
	}
	return bodies
}

// checkKept wants files of the classes Other and Quarantine to be as they were.
func checkKept(t *testing.T, before, now []api.File) {
	t.Helper()
	for _, f := range before {
		if class, _ := names.Parse(f.Name); class != api.Other && class != api.Quarantine {
			continue
		}
		if data, there := ofName(now, f.Name); !there || !bytes.Equal(data, f.Data) {
			t.Fatalf("of %s %q has become %s", sayFiles(before), f.Name, shortly(data))
		}
	}
}

// checkAside wants all junk of each segment to stand in a quarantine file that was not there before.
func checkAside(t *testing.T, before, now []api.File) {
	t.Helper()
	for _, f := range before {
		class, _ := names.Parse(f.Name)
		junk := junkByWords(f.Data)
		if class != api.Segment || junk == "" {
			continue
		}
		aside := slices.ContainsFunc(now, func(g api.File) bool {
			_, old := ofName(before, g.Name)
			class, _ := names.Parse(g.Name)
			return class == api.Quarantine && !old && string(g.Data) == junk
		})
		if !aside {
			t.Fatalf("of %s the junk of %q is not aside: %s", sayFiles(before), f.Name, sayFiles(now))
		}
	}
}

// checkClean wants no temp file, no junk in a segment, and no hint file but right ones, where they may be.
func checkClean(t *testing.T, now []api.File) {
	t.Helper()
	for _, f := range now {
		switch class, _ := names.Parse(f.Name); class {
		case api.Temp:
			t.Fatalf("a temp file is left: %s", sayFiles(now))
		case api.Hints:
			if _, there := ofName(now, strings.TrimSuffix(f.Name, "hint")+"log"); !there {
				t.Fatalf("an orphan is left: %s", sayFiles(now))
			}
		case api.Segment:
			var records []api.Record
			frames := framesByWords(f.Data)
			for _, x := range frames {
				if x.Frame.Kind == api.Put || x.Frame.Kind == api.Delete {
					records = append(records, x.Frame.Record)
				}
			}
			data, there := ofName(now, strings.TrimSuffix(f.Name, "log")+"hint")
			if junkByWords(f.Data) != "" || there != (len(records) == len(frames)) || there && string(data) != rightFor(records...) {
				t.Fatalf("%q is not mended: %s", f.Name, sayFiles(now))
			}
		}
	}
}

// ours are files but for quarantine files, whose numbers hang on how often a salvage was broken off.
func ours(l []api.File) []api.File {
	return slices.DeleteFunc(slices.Clone(l), func(f api.File) bool {
		class, _ := names.Parse(f.Name)
		return class == api.Quarantine
	})
}

// checkExact holds T1 of a salvage of files that came through.
func checkExact(t *testing.T, before []api.File, d *vdisk.Disk, dir *keydir.Dir) {
	t.Helper()
	now := d.Files()
	counting := countingByWords(seenByWords(before))
	if want := worth(before); !slices.Equal(dirWorth(t, dir, keysOf(counting)), want) || !slices.Equal(worth(now), want) {
		t.Fatalf("of %s what counts has become %q, want %q", sayFiles(before), worth(now), want)
	}
	puts := slices.DeleteFunc(counting, func(s api.Seen) bool { return s.Kind != api.Put })
	if keys := dir.Keys(); !slices.Equal(keys, keysOf(puts)) {
		t.Fatalf("of %s these keys have values: %q, want %q", sayFiles(before), keys, keysOf(puts))
	}
	checkDir(t, dir, now)
	checkKept(t, before, now)
	checkAside(t, before, now)
	checkClean(t, now)
}

// checkAgain holds T2 of a disk that was salvaged.
func checkAgain(t *testing.T, d *vdisk.Disk) {
	t.Helper()
	before := sayDisk(d)
	now := d.Files()
	dir, report, errno := mend.Deep(d)
	if errno != api.OK || sayDisk(d) != before || report.Junk != 0 {
		t.Fatalf("Deep of %s, which was salvaged: %s, %d; then %s", before, sayReport(report), errno, sayDisk(d))
	}
	for _, a := range report.Files {
		junk := slices.ContainsFunc(a.Extents, func(e api.Extent) bool { return e.Junk })
		if a.Hint != api.HintFine && a.Hint != api.HintNone || a.Bad != "" || a.Class != api.Segment || junk {
			t.Fatalf("Deep of %s, which was salvaged, tells %s", before, sayReport(report))
		}
	}
	checkDir(t, dir, now)
}

// through salvages a disk with room enough, and holds T1 and T2 of that; it tells what it told, as a text.
func through(t *testing.T, first []api.File, d *vdisk.Disk) string {
	t.Helper()
	before := d.Files()
	dir, report, errno := mend.Deep(d)
	if errno != api.OK {
		t.Fatalf("Deep of %s: %d", sayFiles(before), errno)
	}
	checkExact(t, before, d, dir)
	checkKept(t, first, d.Files())
	checkAside(t, first, d.Files())
	checkAgain(t, d)
	told := tell(dir, append(keysOf(seenByWords(first)), "never")) + sayFiles(ours(d.Files()))
	return told + sayReport(api.Report{Top: report.Top, Frames: report.Frames})
}

func TestExactRecoveryAndOnceIsEnough(t *testing.T) {
	r := source()
	junk, acts := 0, 0
	for range 2000 {
		l := anyDirectory(r)
		d := tornDisk(r, l, room)(t)
		through(t, l, d)
		acts += d.Acts()
		for _, f := range l {
			if class, _ := names.Parse(f.Name); class == api.Segment {
				junk += len(junkByWords(f.Data))
			}
		}
	}
	if junk < 7000 || acts < 20000 {
		t.Errorf("only %d bytes of junk, %d acts", junk, acts)
	}
}

// Any names and bytes at all: also such as no store would write.
func TestExactRecoveryOfAnyBytes(t *testing.T) {
	r := source()
	for range 2000 {
		var l []api.File
		for range r.Intn(8) {
			name := pick(r, seg1, seg2, hint1, hint2, bad1, seg1+".tmp", "seg-00000001.logx", anyText(r, 1+r.Intn(60)), anyText(r, 1+r.Intn(3))+".tmp")
			if _, there := ofName(l, name); !there {
				l = append(l, files(name, perhapsSpoilt(r, anyText(r, r.Intn(40))+laid(anyRecords(r, r.Intn(3))...)))...)
			}
		}
		through(t, l, diskOf(t, room, l...))
	}
}

// brokenOff are directories in which each thing that a salvage does is done.
func brokenOff() [][]api.File {
	lie := pointersTo(recA, recC)
	lie[1].Key = "d"
	return [][]api.File{
		files(seg1, a+b), files(seg1, ""), files("other", "x"+a+b),
		files(seg1, "xyz"+a+b), files(seg1, a+"xyz"+b), files(seg1, a+b+"xyz"), files(seg1, "p"+a+"qq"+b+"rrr"), files(seg1, "xyz"), files(seg1, b[:4]+a+b[4:]),
		files(seg1, a+c, hint1, hintsOf(a+c, 2, lie...)), files(seg1, a, hint1, rightFor(recC)), files(seg1, a, hint1, "damaged"), files(seg1, foot+a, hint1, "x"), files(hint1, rightFor(recA)),
		files(seg1, a+foot+"x"+b, hint1, rightFor(recA)), files("x.tmp", "x", seg1+".tmp", a, hint1+".tmp", "", bad1+".tmp", "old", seg1, a+"x"),
		files(bad1, "old", bad3, "older", "other", "o", seg1, "x"+a, hint1, rightFor(recA), seg2, whole(put(7, "a", "y"))+"junk", hint2, "y", seg3, c, "seg-00000009.hint", "", "y.tmp", "z"),
	}
}

// A salvage that ends at each of its acts, in each way, and a crash that keeps each number of the bytes that do not last: behind that the records count for what they did, and a later salvage tells what the first would have told.
func TestSalvageBrokenOffAtEachAct(t *testing.T) {
	breaks, torn := 0, 0
	for _, l := range brokenOff() {
		d := diskOf(t, room, l...)
		want := through(t, l, d)
		acts := d.Acts()
		for n := 1; n <= acts; n++ {
			for _, f := range faults {
				loose := 0
				for keep := -1; keep <= loose+1; keep++ {
					d := diskOf(t, room, l...)
					f.arm(d, n)
					dir, report, errno := mend.Deep(d)
					if dir != nil || sayReport(report) != sayReport(api.Report{}) || errno != f.want || d.Acts() != n {
						t.Fatalf("Deep of %s whose act %d %s: %s, %d, %d acts", sayFiles(l), n, f.what, sayReport(report), errno, d.Acts())
					}
					loose = sumOf(d.Files()) - sumOf(d.Lasting())
					d.Crash(keep)
					checkBroken(t, l, d, want)
					breaks++
					if keep == 1 && loose > 1 {
						torn++
					}
				}
			}
		}
	}
	if breaks < 1000 || torn < 50 {
		t.Errorf("only %d breaks, %d of which tore a file", breaks, torn)
	}
}

// checkBroken holds T3 of what is left of files by a salvage that was broken off; want is what the first would have told.
func checkBroken(t *testing.T, first []api.File, d *vdisk.Disk, want string) {
	t.Helper()
	left := d.Files()
	if got := worth(left); !slices.Equal(got, worth(first)) {
		t.Fatalf("of %s %s is left: what counts is %q, want %q", sayFiles(first), sayFiles(left), got, worth(first))
	}
	checkKept(t, first, left)
	if got := through(t, first, d); got != want {
		t.Fatalf("of %s %s was left: a later salvage tells\n  %s, want\n  %s", sayFiles(first), sayFiles(left), got, want)
	}
}

// An act that fails leaves the disk up: the next salvage needs no crash.
func TestSalvageBehindAnActThatFails(t *testing.T) {
	for _, l := range brokenOff() {
		d := diskOf(t, room, l...)
		want := through(t, l, d)
		for n := 1; n <= d.Acts(); n++ {
			d := diskOf(t, room, l...)
			d.FailAt(n)
			if _, _, errno := mend.Deep(d); errno != api.ErrDiskIO || d.Down() {
				t.Fatalf("Deep of %s whose act %d fails: %d", sayFiles(l), n, errno)
			}
			checkBroken(t, l, d, want)
		}
	}
}

// A break that has nothing lost: the disk is down till the crash, and Deep says so.
func TestDeepBetweenBreakAndCrash(t *testing.T) {
	for _, l := range brokenOff() {
		d := diskOf(t, room, l...)
		want := through(t, l, d)
		for n := 1; n <= d.Acts(); n++ {
			d := diskOf(t, room, l...)
			d.BreakAt(n, n%2 == 0)
			mend.Deep(d)
			before := sayDisk(d)
			if dir, _, errno := mend.Deep(d); dir != nil || errno != api.ErrDiskDown || sayDisk(d) != before {
				t.Fatalf("Deep of %s: %d; then %s", before, errno, sayDisk(d))
			}
			d.Crash(math.MaxInt)
			checkBroken(t, l, d, want)
		}
	}
}

// Salvages of any directory, broken off one behind the other, with whatever lost.
func TestSalvageBrokenOffAgainAndAgain(t *testing.T) {
	r := source()
	breaks := 0
	for range 1500 {
		l := anyDirectory(r)
		want := through(t, l, diskOf(t, room, l...))
		d := diskOf(t, room, l...)
		for range 1 + r.Intn(4) {
			pick(r, faults...).arm(d, 1+r.Intn(1+r.Intn(25)))
			if _, _, errno := mend.Deep(d); errno != api.OK {
				breaks++
			}
			if d.Down() || r.Intn(2) == 0 {
				d.Crash(pick(r, -1, 0, 1, r.Intn(40), math.MaxInt))
			}
			if got := worth(d.Files()); !slices.Equal(got, worth(l)) {
				t.Fatalf("of %s %s is left: what counts is %q, want %q", sayFiles(l), sayFiles(d.Files()), got, worth(l))
			}
		}
		d.FailAt(0)
		d.BreakAt(0, false)
		checkBroken(t, l, d, want)
	}
	if breaks < 1200 {
		t.Errorf("only %d breaks", breaks)
	}
}

// What a salvage has done lasts: a crash behind it takes nothing away.
func TestCrashBehindASalvage(t *testing.T) {
	r := source()
	for range 1000 {
		l := anyDirectory(r)
		d := diskOf(t, room, l...)
		if _, _, errno := mend.Deep(d); errno != api.OK {
			t.Fatalf("Deep of %s: %d", sayFiles(l), errno)
		}
		now := d.Files()
		d.Crash(0)
		if !sameFiles(d.Files(), now) {
			t.Fatalf("of %s a salvage leaves %s, and behind a crash there is %s", sayFiles(l), sayFiles(now), sayFiles(d.Files()))
		}
	}
}

// With less room than is needed nothing is changed at all; with whatever room there is enough.
func TestAnyRoom(t *testing.T) {
	r := source()
	full := 0
	for range 1500 {
		l := anyDirectory(r)
		d := tornDisk(r, l, sumOf(l)+r.Intn(1+r.Intn(400)))(t)
		before := sayDisk(d)
		dir, report, errno := mend.Deep(d)
		switch {
		case errno == api.OK:
			checkExact(t, l, d, dir)
			checkAgain(t, d)
		case errno != api.ErrPlanFull || dir != nil || sayReport(report) != sayReport(api.Report{}) || sayDisk(d) != before:
			t.Fatalf("Deep of %s: %s, %d; then %s", before, sayReport(report), errno, sayDisk(d))
		default:
			full++
		}
	}
	if full < 300 || full > 1200 {
		t.Errorf("%d times there was no room", full)
	}
}
