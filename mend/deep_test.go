package mend_test

import (
	"slices"
	"strings"
	"testing"

	"salvor/api"
	"salvor/keydir"
	"salvor/mend"
	"salvor/plan"
	"salvor/vdisk"
)

// salvaged holds what Deep leaves of files, what it tells of them, and how many acts that takes; and that it is what the chapter's words ask for.
func salvaged(t *testing.T, l []api.File, acts int, report api.Report, then ...string) *keydir.Dir {
	t.Helper()
	d := diskOf(t, room, l...)
	dir, got, errno := checkDeep(t, d, diskOf(t, room, l...))
	if errno != api.OK || sayReport(got) != sayReport(report) {
		t.Errorf("Deep of %s tells\n  %s, %d, want\n  %s", sayFiles(l), sayReport(got), errno, sayReport(report))
	}
	if d.Acts() != acts {
		t.Errorf("Deep of %s: %d acts, want %d", sayFiles(l), d.Acts(), acts)
	}
	if now := d.Files(); !sameFiles(now, files(then...)) {
		t.Errorf("Deep of %s leaves\n  %s, want\n  %s", sayFiles(l), sayFiles(now), sayFiles(files(then...)))
	}
	if now := d.Lasting(); !sameFiles(now, files(then...)) {
		t.Errorf("Deep of %s: what lasts is\n  %s, want\n  %s", sayFiles(l), sayFiles(now), sayFiles(files(then...)))
	}
	return dir
}

// has holds what a directory tells of a key.
func has(t *testing.T, dir *keydir.Dir, r api.Record, segment uint32, at int) {
	t.Helper()
	want := api.Seen{Key: r.Key, LSN: r.LSN, Kind: r.Kind, Place: api.Place{Segment: segment, At: at, Len: len(whole(r))}, Known: true, Body: bodyByWords(r)}
	if got, errno := dir.Last(r.Key); got != want || errno != api.OK {
		t.Errorf("of %q it tells %+v, %d, want %+v", r.Key, got, errno, want)
	}
}

func account(name string, hint api.Verdict, bad string, extents ...api.Extent) api.Account {
	return api.Account{Name: name, Class: api.Segment, Hint: hint, Bad: bad, Extents: extents}
}

func orphan(name string) api.Account {
	return api.Account{Name: name, Class: api.Hints, Hint: api.HintOrphan}
}

func isFrame(at, size int) api.Extent { return api.Extent{At: at, Len: size} }

func isJunk(at, size int) api.Extent { return api.Extent{Junk: true, At: at, Len: size} }

func reportOf(top uint64, frames, junk int, l ...api.Account) api.Report {
	return api.Report{Files: l, Top: top, Frames: frames, Junk: junk}
}

func TestDeepOfAnEmptyDisk(t *testing.T) {
	dir := salvaged(t, nil, 0, api.Report{})
	if len(dir.Keys()) > 0 || dir.Top() != 0 {
		t.Errorf("it tells %q", dir.Keys())
	}
	for _, capacity := range []int{0, 1, api.MaxDisk} {
		dir, report, errno := checkDeep(t, diskOf(t, capacity), diskOf(t, capacity))
		if dir == nil || sayReport(report) != sayReport(api.Report{}) || errno != api.OK {
			t.Errorf("of an empty disk of %d bytes: %s, %d", capacity, sayReport(report), errno)
		}
	}
}

// An armed disk on which nothing is to be done stays armed.
func TestDeepThatAsksForNothing(t *testing.T) {
	for _, f := range faults {
		d := diskOf(t, room, files(seg1, a, hint1, rightFor(recA), "other", "o")...)
		f.arm(d, 1)
		if _, _, errno := mend.Deep(d); errno != api.OK || d.Acts() != 0 {
			t.Errorf("Deep = %d, %d acts", errno, d.Acts())
		}
		if errno := d.Sync("other"); errno != f.want {
			t.Errorf("an act that %s: %d", f.what, errno)
		}
	}
}

func TestDeepOfADiskThatIsDown(t *testing.T) {
	for _, l := range [][]api.File{nil, files(seg1, a), files(seg1, "x"+a+"y", "x.tmp", ""), files(seg1, a, hint1, rightFor(recA))} {
		for _, capacity := range []int{room, sumOf(l)} { // also without room enough: that is told later
			d := broken(t, diskOf(t, capacity, l...))
			before := sayDisk(d)
			for range 2 {
				if dir, report, errno := mend.Deep(d); dir != nil || report.Files != nil || sayReport(report) != sayReport(api.Report{}) || errno != api.ErrDiskDown || sayDisk(d) != before {
					t.Errorf("Deep of %s, which is down: %s, %d; then %s", before, sayReport(report), errno, sayDisk(d))
				}
			}
		}
	}
	d := broken(t, diskOf(t, room, files(seg1, a)...))
	d.Crash(0)
	dir, _, errno := mend.Deep(d)
	if errno != api.OK {
		t.Fatalf("when it is up again: %d", errno)
	}
	has(t, dir, recA, 1, 0)
}

func TestDeepOfFilesOfEveryClass(t *testing.T) {
	l := files("other", a+"x", "seg-00000000.log", a, "seg-0000000A.hint", "h", "bad-00000000.bin", "", // not ours
		bad2, "old", "x.tmp", "t", seg2+".tmp", c, ".tmp", "", bad1+".tmp", "half", seg1, "x"+a, hint1, rightFor(recA), seg3, b, "seg-00000009.hint", "o")
	report := reportOf(7, 2, 1, account(seg1, api.HintFine, bad1, isJunk(0, 1), isFrame(1, len(a))), account(seg3, api.HintMissing, "", isFrame(0, len(b))), orphan("seg-00000009.hint"))
	dir := salvaged(t, l, 4+4+4+4+1, report, "bad-00000000.bin", "", bad1, "x", bad2, "old", "other", a+"x", "seg-00000000.log", a,
		hint1, rightFor(recA), seg1, a, hint3, rightFor(recB), seg3, b, "seg-0000000A.hint", "h")
	has(t, dir, recA, 1, 0)
	has(t, dir, recB, 3, 0)
	if keys := dir.Keys(); !slices.Equal(keys, []string{"a"}) { // neither the Delete nor what lay in temps
		t.Errorf("it tells the keys %q", keys)
	}
}

func TestDeepOfACleanSegment(t *testing.T) {
	n, m := len(a), len(b)
	right := rightFor(recA, recB)
	told := func(v api.Verdict) api.Report {
		return reportOf(7, 2, 0, account(seg1, v, "", isFrame(0, n), isFrame(n, m)))
	}
	dir := salvaged(t, files(seg1, a+b), 4, told(api.HintMissing), hint1, right, seg1, a+b)
	has(t, dir, recA, 1, 0)
	has(t, dir, recB, 1, n)
	salvaged(t, files(seg1, a+b, hint1, right), 0, told(api.HintFine), hint1, right, seg1, a+b)
	salvaged(t, files(seg1, ""), 4, reportOf(0, 0, 0, account(seg1, api.HintMissing, "")), hint1, rightFor(), seg1, "")
	salvaged(t, files(seg1, foot+a), 0, reportOf(7, 2, 0, account(seg1, api.HintNone, "", isFrame(0, len(foot)), isFrame(len(foot), n))), seg1, foot+a)
	salvaged(t, files(seg1, pointer, hint1, "any"), 1, reportOf(0, 1, 0, account(seg1, api.HintDamaged, "", isFrame(0, len(pointer)))), seg1, pointer)
}

// Records stand elsewhere behind a salvage: what is told is where they stand then.
func TestDeepOfASegmentWithJunk(t *testing.T) {
	n, m := len(a), len(b)
	right := rightFor(recA, recB)
	check := func(s string, acts int, junk string, extents ...api.Extent) {
		t.Helper()
		report := reportOf(7, 2, len(junk), account(seg1, api.HintMissing, bad1, extents...))
		dir := salvaged(t, files(seg1, s), acts, report, bad1, junk, hint1, right, seg1, a+b)
		has(t, dir, recA, 1, 0)
		has(t, dir, recB, 1, n)
	}
	check("xyz"+a+b, 12, "xyz", isJunk(0, 3), isFrame(3, n), isFrame(3+n, m))
	check(a+"xyz"+b, 12, "xyz", isFrame(0, n), isJunk(n, 3), isFrame(n+3, m))
	check(a+b+"xyz", 9, "xyz", isFrame(0, n), isFrame(n, m), isJunk(n+m, 3))
	check("p"+a+"qq"+b+"rrr", 12, "pqqrrr", isJunk(0, 1), isFrame(1, n), isJunk(1+n, 2), isFrame(3+n, m), isJunk(3+n+m, 3))
	alone := reportOf(0, 0, 3, account(seg1, api.HintMissing, bad1, isJunk(0, 3)))
	dir := salvaged(t, files(seg1, "xyz"), 9, alone, bad1, "xyz", hint1, rightFor(), seg1, "")
	if len(dir.Keys()) > 0 || dir.Top() != 0 {
		t.Errorf("of junk it tells %q", dir.Keys())
	}
	// runs of junk that would be a frame, laid one behind the other, are none
	split := reportOf(7, 1, m, account(seg1, api.HintMissing, bad1, isJunk(0, 4), isFrame(4, n), isJunk(4+n, m-4)))
	dir = salvaged(t, files(seg1, b[:4]+a+b[4:]), 12, split, bad1, b, hint1, rightFor(recA), seg1, a)
	if _, errno := dir.Last("bb"); errno != api.ErrKeydirNone {
		t.Errorf("what was put aside is told: %d", errno)
	}
}

func TestDeepOfHintFilesOfEveryVerdict(t *testing.T) {
	n, m := len(a), len(b)
	right := rightFor(recA, recB)
	lie := pointersTo(recA, recB)
	lie[0].LSN = 1 << 60
	for _, x := range []struct {
		data    string
		verdict api.Verdict
		acts    int
	}{
		{right, api.HintFine, 0}, {rightFor(recA), api.HintStale, 4}, {right[:len(right)-1], api.HintDamaged, 4}, {"", api.HintDamaged, 4},
		{hintsOf(a+b, 2, lie...), api.HintForged, 4}, {right + right, api.HintDamaged, 4},
	} {
		report := reportOf(7, 2, 0, account(seg1, x.verdict, "", isFrame(0, n), isFrame(n, m)))
		dir := salvaged(t, files(seg1, a+b, hint1, x.data), x.acts, report, hint1, right, seg1, a+b)
		has(t, dir, recA, 1, 0) // whatever the hint file says
		if dir.Top() != 7 {
			t.Errorf("its top is %d", dir.Top())
		}
		report = reportOf(7, 2, 1, account(seg1, x.verdict, bad1, isFrame(0, n), isFrame(n, m), isJunk(n+m, 1)))
		salvaged(t, files(seg1, a+b+"x", hint1, x.data), 5+x.acts, report, bad1, "x", hint1, right, seg1, a+b)
		salvaged(t, files(hint2, x.data, seg1, a+b, hint1, right), 1,
			reportOf(7, 2, 0, account(seg1, api.HintFine, "", isFrame(0, n), isFrame(n, m)), orphan(hint2)), hint1, right, seg1, a+b)
	}
}

// What counts is a matter of all segments: by LSN, then by body, then by place.
func TestDeepOfSeveralSegments(t *testing.T) {
	older, newer, rival, away := put(4, "k", "zz"), put(5, "k", "x"), put(5, "k", "y"), gone(6, "k")
	for _, x := range []struct {
		l     []api.File
		want  api.Record
		where uint32
		at    int
	}{
		{files(seg1, laid(older), seg2, laid(newer)), newer, 2, 0},
		{files(seg1, laid(newer), seg2, laid(older)), newer, 1, 0},
		{files(seg1, laid(newer, rival), seg2, laid(older)), rival, 1, len(whole(newer))},
		{files(seg1, laid(rival), seg2, laid(newer)), rival, 1, 0},
		{files(seg1, laid(older), seg2, laid(older, rival), seg3, laid(rival)), rival, 2, len(whole(older))},
		{files(seg3, laid(rival), seg2, "junk"+laid(rival)), rival, 2, 0},
		{files(seg1, laid(away), seg2, laid(rival)), away, 1, 0},
		{files(seg1, laid(rival), "seg-ffffffff.log", laid(away)), away, 0xffffffff, 0},
		{files(seg1, laid(gone(5, "k")), seg2, laid(newer)), gone(5, "k"), 1, 0},
		{files(seg1, laid(newer, newer, newer)), newer, 1, 0},
	} {
		d := diskOf(t, room, x.l...)
		dir, _, errno := checkDeep(t, d, diskOf(t, room, x.l...))
		if errno != api.OK {
			t.Fatalf("Deep of %s: %d", sayFiles(x.l), errno)
		}
		has(t, dir, x.want, x.where, x.at)
		if keys := dir.Keys(); (len(keys) == 1) != (x.want.Kind == api.Put) {
			t.Errorf("of %s it tells the keys %q", sayFiles(x.l), keys)
		}
	}
}

// Records at the edges of what may be: each is Known, with its whole body.
func TestDeepOfRecordsAtTheEdges(t *testing.T) {
	l := []api.Record{
		put(1, "\x00", ""), put(1<<64-1, strings.Repeat("\xa7", 64), strings.Repeat("\xa7", 2048)), gone(1<<64-1, strings.Repeat("\xa6", 64)),
		gone(0xa7, "\xa7"), put(0xa6, "\xa6\xa7", "\xa7\xa6\x00\x01"), put(128, strings.Repeat("k", 64), strings.Repeat("v", 2048)),
	}
	for _, s := range []string{laid(l...), "\xa7" + laid(l...), laid(l...) + "\xa7\x00"} {
		dir, _, errno := checkDeep(t, diskOf(t, room, files(seg1, s)...), diskOf(t, room, files(seg1, s)...))
		if errno != api.OK {
			t.Fatalf("Deep: %d", errno)
		}
		at := 0
		for _, r := range l {
			has(t, dir, r, 1, at)
			at += len(whole(r))
		}
	}
}

// Bytes that do not last are looked at as all others.
func TestDeepOfBytesThatDoNotLast(t *testing.T) {
	fresh := func() *vdisk.Disk {
		return unsynced(t, diskOf(t, room, files(seg1, a+b[:3], seg2, "")...), files(seg1, b[3:]+"x", seg2, c)...)
	}
	d := fresh()
	dir, report, errno := checkDeep(t, d, fresh())
	if errno != api.OK || report.Frames != 3 || report.Junk != 1 {
		t.Fatalf("Deep: %s, %d", sayReport(report), errno)
	}
	has(t, dir, recA, 1, 0)
	has(t, dir, recB, 1, len(a))
	has(t, dir, recC, 2, 0)
}

// With just as much room as the plan says it comes through; with less nothing is changed, and no act asked for.
func TestDeepWithLittleRoom(t *testing.T) {
	long := strings.Repeat("v", 1000)
	far := whole(put(9, "k", long))
	refused := 0
	for _, l := range [][]api.File{
		files(seg1, a), files(seg1, ""), files(seg1, "x"+a), files(seg1, a+"x"), files(seg1, long), files(seg1, far+"x"+a), files(seg1, a, seg2, "x"+far),
		files("x.tmp", long, seg1, "x"+a), files("x.tmp", long+long, seg1, "x"+far), files(seg1, "", hint1, long), files(seg1, foot, hint1, long, seg2, long),
		files("other", long, bad1, long, seg1, a+"x"+b), files(seg1, a, hint1, rightFor(recA)), files(hint1, long), nil, files("x.tmp", "x"),
	} {
		p, _ := plan.Deep(l, room)
		d := diskOf(t, p.Peak, l...)
		_, report, errno := checkDeep(t, d, diskOf(t, p.Peak, l...))
		if errno != api.OK || sayReport(report) != sayReport(p.Report) || d.Acts() != countActs(p.Steps) {
			t.Errorf("Deep of %s with %d bytes: %s, %d", sayFiles(l), p.Peak, sayReport(report), errno)
		}
		for capacity := sumOf(l); capacity < p.Peak; capacity += 1 + (p.Peak-capacity)/3 {
			for _, f := range faults {
				d := diskOf(t, capacity, l...)
				f.arm(d, 1)
				before := sayDisk(d)
				dir, report, errno := mend.Deep(d)
				if dir != nil || report.Files != nil || sayReport(report) != sayReport(api.Report{}) || errno != api.ErrPlanFull || sayDisk(d) != before {
					t.Errorf("Deep of %s with %d bytes, which is less than %d: %s, %d; then %s", sayFiles(l), capacity, p.Peak, sayReport(report), errno, sayDisk(d))
				}
				if errno := d.Create("z"); errno != f.want { // it is still armed
					t.Errorf("an act that %s, behind that: %d", f.what, errno)
				}
				refused++
			}
		}
	}
	if refused < 100 {
		t.Errorf("only %d refused", refused)
	}
}

func TestTheChaptersExamplesOfDeep(t *testing.T) {
	salvaged(t, nil, 0, api.Report{})
	half := b[:len(b)/2]
	report := reportOf(7, 1, len(half), account(seg1, api.HintMissing, bad1, isFrame(0, len(a)), isJunk(len(a), len(half))))
	dir := salvaged(t, files(seg1, a+half), 9, report, bad1, half, hint1, rightFor(recA), seg1, a)
	has(t, dir, recA, 1, 0)
}

// The document's own examples: 4, 5 and 6.
func TestTheDocumentsExamples(t *testing.T) {
	between := reportOf(7, 2, 3, account(seg1, api.HintMissing, bad1, isFrame(0, len(a)), isJunk(len(a), 3), isFrame(len(a)+3, len(c))))
	salvaged(t, files(seg1, a+"xyz"+c), 12, between, bad1, "xyz", hint1, rightFor(recA, recC), seg1, a+c)
	behind := reportOf(7, 1, len(c)-1, account(seg1, api.HintMissing, bad1, isFrame(0, len(a)), isJunk(len(a), len(c)-1)))
	salvaged(t, files(seg1, a+c[1:]), 9, behind, bad1, c[1:], hint1, rightFor(recA), seg1, a)
	twice := reportOf(7, 2, 0, account(seg1, api.HintMissing, "", isFrame(0, len(a))), account(seg2, api.HintMissing, "", isFrame(0, len(a))))
	dir := salvaged(t, files(seg1, a, seg2, a), 8, twice, hint1, rightFor(recA), seg1, a, hint2, rightFor(recA), seg2, a)
	has(t, dir, recA, 1, 0)
	if keys := dir.Keys(); !slices.Equal(keys, []string{"a"}) {
		t.Errorf("it tells the keys %q", keys)
	}
	for _, l := range [][]api.File{files(seg1, laid(gone(5, "k")), seg2, laid(put(4, "k", "v"))), files(seg2, laid(gone(5, "k")), seg1, laid(put(4, "k", "v")))} {
		dir, _, _ := mend.Deep(diskOf(t, room, l...))
		if _, errno := dir.Get("k"); errno != api.ErrKeydirNone || len(dir.Keys()) > 0 {
			t.Errorf("of %s the key has a value: %d", sayFiles(l), errno)
		}
	}
}
