package fast_test

import (
	"fmt"
	"math"
	"slices"
	"strings"
	"testing"

	"salvor/api"
	"salvor/fast"
	"salvor/keydir"
	"salvor/plan"
)

// planned holds what Plan tells of files: the report, and the files that come of the steps; and that it is what the chapter's words ask for.
func planned(t *testing.T, l []api.File, report api.Report, then []api.File) *keydir.Dir {
	t.Helper()
	p, dir, errno := checkPlan(t, l, room)
	if errno != api.OK || sayReport(p.Report) != sayReport(report) {
		t.Errorf("Plan of %s tells\n  %s, %d, want\n  %s", sayFiles(l), sayReport(p.Report), errno, sayReport(report))
	}
	if now, errno := plan.Apply(l, p.Steps...); !sameFiles(now, byNames(then)) || errno != api.OK {
		t.Errorf("of %s Plan makes\n  %s, %d, want\n  %s", sayFiles(l), sayFiles(now), errno, sayFiles(byNames(then)))
	}
	if peak := plan.Peak(l, p.Steps...); p.Peak != peak {
		t.Errorf("the peak of %s is %d, want %d", sayFiles(l), p.Peak, peak)
	}
	return dir
}

// untouched holds that a plan of files has no steps.
func untouched(t *testing.T, l []api.File, report api.Report) *keydir.Dir {
	t.Helper()
	if p, _, _ := fast.Plan(l, sumOf(l)); len(p.Steps) > 0 || p.Peak != sumOf(l) {
		t.Errorf("of %s, without any room, the plan is %s", sayFiles(l), sayPlan(p))
	}
	return planned(t, l, report, l)
}

func believed(names ...string) []api.Account {
	var l []api.Account
	for _, name := range names {
		l = append(l, api.Account{Name: name, Class: api.Segment, Hint: api.HintFine})
	}
	return l
}

func account(name string, hint api.Verdict, bad string, extents ...api.Extent) api.Account {
	return api.Account{Name: name, Class: api.Segment, Hint: hint, Bad: bad, Extents: extents}
}

// looked is the account of a clean segment of some records that was looked into.
func looked(name string, hint api.Verdict, l ...api.Record) api.Account {
	var extents []api.Extent
	for _, p := range pointersTo(l...) {
		extents = append(extents, api.Extent{At: p.At, Len: p.Len})
	}
	return account(name, hint, "", extents...)
}

func orphan(name string) api.Account {
	return api.Account{Name: name, Class: api.Hints, Hint: api.HintOrphan}
}

func isFrame(at, size int) api.Extent { return api.Extent{At: at, Len: size} }

func isJunk(at, size int) api.Extent { return api.Extent{Junk: true, At: at, Len: size} }

func reportOf(top uint64, frames, junk int, l ...api.Account) api.Report {
	return api.Report{Files: l, Top: top, Frames: frames, Junk: junk}
}

func TestPlanOfNoFiles(t *testing.T) {
	checkDir(t, untouched(t, nil, api.Report{}))
	checkDir(t, untouched(t, []api.File{}, api.Report{}))
	checkDir(t, untouched(t, files("other", a, "seg-00000000.log", a, bad1, b), api.Report{}))
	for _, capacity := range []int{0, 1, api.MaxDisk} {
		if p, dir, errno := fast.Plan(nil, capacity); dir == nil || errno != api.OK || sayPlan(p) != sayPlan(api.Plan{}) {
			t.Errorf("Plan of nothing for %d bytes = %s, %v, %d", capacity, sayPlan(p), dir, errno)
		}
	}
}

func TestPlanOfASegmentWithItsRightHintFile(t *testing.T) {
	dir := untouched(t, clean(1, recA, recB, recC), reportOf(7, 0, 0, believed(seg1)...))
	checkDir(t, dir, pointed(recA, 1, 0), pointed(recB, 1, len(a)), pointed(recC, 1, len(a+b)))
	checkDir(t, untouched(t, clean(1), reportOf(0, 0, 0, believed(seg1)...)))
	// two of one key, of which the later one does not count
	dir = untouched(t, clean(0xffffffff, put(2, "k", "new"), put(1, "k", "old")), reportOf(2, 0, 0, believed("seg-ffffffff.log")...))
	checkDir(t, dir, pointed(put(2, "k", "new"), 0xffffffff, 0), pointed(put(1, "k", "old"), 0xffffffff, len(whole(put(2, "k", "new")))))
}

func TestPlanOfASegmentWithoutAHintFile(t *testing.T) {
	right := clean(1, recA, recB)
	dir := planned(t, right[:1], reportOf(7, 2, 0, looked(seg1, api.HintMissing, recA, recB)), right)
	checkDir(t, dir, seen(recA, 1, 0), seen(recB, 1, len(a)))
	dir = planned(t, files(seg1, ""), reportOf(0, 0, 0, looked(seg1, api.HintMissing)), clean(1))
	checkDir(t, dir)
	// a segment that may have none, with none and with one
	l := files(seg1, a+foot)
	report := func(v api.Verdict) api.Report {
		return reportOf(7, 2, 0, account(seg1, v, "", isFrame(0, len(a)), isFrame(len(a), len(foot))))
	}
	checkDir(t, untouched(t, l, report(api.HintNone)), seen(recA, 1, 0))
	checkDir(t, planned(t, append(files(hint1, rightFor(recA)), l...), report(api.HintStale), l), seen(recA, 1, 0))
	// a temp file is none, nor is the hint file of another segment
	dir = planned(t, append(files(hint1+".tmp", rightFor(recA, recB), hint2, rightFor(recA, recB)), right[0]), reportOf(7, 2, 0, looked(seg1, api.HintMissing, recA, recB), orphan(hint2)), right)
	checkDir(t, dir, seen(recA, 1, 0), seen(recB, 1, len(a)))
}

// A hint file that is not fine by itself: the segment is looked into, and all of it is Known.
func TestPlanOfASegmentWithAnotherHintFile(t *testing.T) {
	right := clean(1, recA, recB)
	check := func(hints string, verdict api.Verdict) {
		t.Helper()
		dir := planned(t, with(1, hints, recA, recB), reportOf(7, 2, 0, looked(seg1, verdict, recA, recB)), right)
		checkDir(t, dir, seen(recA, 1, 0), seen(recB, 1, len(a)))
	}
	whole := string(right[1].Data)
	for _, hints := range []string{"", "x", whole + "x", whole[1:], whole[:len(whole)-1], whole + whole, foot, pointer, a} {
		check(hints, api.HintDamaged)
	}
	check(rightFor(recA), api.HintStale)
	check(rightFor(recB, recA), api.HintStale)
	check(rightFor(), api.HintStale)
	check(rightFor(put(7, "a", "y"), recB), api.HintStale)           // as long, but of other bytes
	check(lie(0, says(8, api.Put, "a"), recA, recB), api.HintForged) // fine by itself, but caught
}

func TestPlanOfASegmentWithJunk(t *testing.T) {
	n, m := len(a), len(b)
	check := func(s, hints, junk string, verdict api.Verdict, extents ...api.Extent) {
		t.Helper()
		dir := planned(t, files(seg1, s, hint1, hints), reportOf(7, 2, len(junk), account(seg1, verdict, bad1, extents...)), append(clean(1, recA, recB), files(bad1, junk)...))
		checkDir(t, dir, seen(recA, 1, 0), seen(recB, 1, n)) // where they stand behind the steps
	}
	right := rightFor(recA, recB)
	check(a+b+"xy", right, "xy", api.HintFine, isFrame(0, n), isFrame(n, m), isJunk(n+m, 2))
	check("xy"+a+b, right, "xy", api.HintFine, isJunk(0, 2), isFrame(2, n), isFrame(n+2, m))
	check(a+"x"+b+"y", "z", "xy", api.HintDamaged, isFrame(0, n), isJunk(n, 1), isFrame(n+1, m), isJunk(n+1+m, 1))
	// one that is fine for the segment with its junk: what it says of a record that counts is a lie
	s := a + "xy" + b
	check(s, hintsOf(s, covering(s)...), "xy", api.HintStale, isFrame(0, n), isJunk(n, 2), isFrame(n+2, m))
	s = "xy" + a + b
	check(s, hintsOf(s, covering(s)...), "xy", api.HintStale, isJunk(0, 2), isFrame(2, n), isFrame(n+2, m))
}

// Where nothing of it counts, a segment with junk is believed as any other: the junk stays.
func TestPlanOfASegmentWithJunkThatIsBelieved(t *testing.T) {
	s := a + "xy"
	hints := hintsOf(s, covering(s)...)
	newer := put(8, "a", "newer")
	l := append(clean(2, newer), files(seg1, s, hint1, hints)...)
	dir := untouched(t, l, reportOf(8, 0, 0, believed(seg1, seg2)...))
	told := pointed(recA, 1, 0)
	told.Place.Len += 2
	checkDir(t, dir, told, pointed(newer, 2, 0))
	// frames of other kinds, likewise
	s = a + foot
	l = append(clean(2, newer, put(3, "b", "")), files(seg1, s, hint1, hintsOf(s, append(pointersTo(recA), api.Pointer{LSN: 2, Kind: api.Put, Key: "b", At: len(a), Len: len(foot)})...))...)
	untouched(t, l, reportOf(8, 0, 0, believed(seg1, seg2)...))
}

func TestPlanOfFilesOfEveryClass(t *testing.T) {
	l := slices.Concat(clean(2, recC), files("other", a+"x", "seg-00000000.log", a, "seg-0000000A.hint", "h", bad2, "old", "x.tmp", "t", seg2+".tmp", c, ".tmp", "", bad1+".tmp", "half",
		seg1, "x"+a, hint1, rightFor(recA), seg3, b, "seg-00000009.hint", "o", "seg-ffffffff.hint", rightFor()))
	report := reportOf(7, 2, 1, account(seg1, api.HintFine, bad1, isJunk(0, 1), isFrame(1, len(a))), believed(seg2)[0], looked(seg3, api.HintMissing, recB), orphan("seg-00000009.hint"), orphan("seg-ffffffff.hint"))
	then := slices.Concat(clean(1, recA), clean(2, recC), clean(3, recB), files("other", a+"x", "seg-00000000.log", a, "seg-0000000A.hint", "h", bad2, "old", bad1, "x"))
	checkDir(t, planned(t, l, report, then), seen(recA, 1, 0), pointed(recC, 2, 0), seen(recB, 3, 0))
}

// Of one key in one that is believed and one that is looked into the record that counts is told, wherever it stands.
func TestPlanOfSegmentsOfWhichSomeAreBelieved(t *testing.T) {
	older, newer, deleted := put(1, "k", "old"), put(2, "k", "new"), gone(3, "k")
	l := slices.Concat(clean(1, newer), files(seg2, laid(older)))
	dir := planned(t, l, reportOf(2, 1, 0, believed(seg1)[0], looked(seg2, api.HintMissing, older)), slices.Concat(clean(1, newer), clean(2, older)))
	checkDir(t, dir, pointed(newer, 1, 0), seen(older, 2, 0))
	l = slices.Concat(clean(1, older), files(seg2, laid(newer)))
	dir = planned(t, l, reportOf(2, 1, 0, believed(seg1)[0], looked(seg2, api.HintMissing, newer)), slices.Concat(clean(1, older), clean(2, newer)))
	checkDir(t, dir, pointed(older, 1, 0), seen(newer, 2, 0))
	l = slices.Concat(clean(1, newer), files(seg2, laid(older)), clean(3, deleted, recA))
	dir = planned(t, l, reportOf(7, 1, 0, believed(seg1)[0], looked(seg2, api.HintMissing, older), believed(seg3)[0]), slices.Concat(clean(1, newer), clean(2, older), clean(3, deleted, recA)))
	checkDir(t, dir, pointed(newer, 1, 0), seen(older, 2, 0), pointed(deleted, 3, 0), pointed(recA, 3, len(whole(deleted))))
	if keys := dir.Keys(); !slices.Equal(keys, []string{"a"}) {
		t.Errorf("it tells the keys %q", keys)
	}
}

// Top is the directory's: of those that are looked into, of those that are believed, and of what does not count.
func TestPlanAndTheReportsTop(t *testing.T) {
	const most = 1<<64 - 1
	for _, x := range []struct {
		first, second uint64
		top           uint64
	}{{1, 2, 2}, {2, 1, 2}, {most, 5, most}, {5, most, most}, {7, 7, 7}} {
		one, two := put(x.first, "k", ""), put(x.second, "l", "")
		l := slices.Concat(clean(1, one), files(seg2, laid(two)))
		p, dir, errno := checkPlan(t, l, room)
		if p.Report.Top != x.top || dir.Top() != x.top || errno != api.OK {
			t.Errorf("of %d that is believed and %d the top is %d, %d, %d", x.first, x.second, p.Report.Top, dir.Top(), errno)
		}
	}
}

// Records of one key with one LSN: all places that are not Known are wanted, and settled.
func TestPlanOfRivals(t *testing.T) {
	x, y, z := put(5, "k", "x"), put(5, "k", "y"), gone(5, "k")
	other := put(9, "l", "")
	both := slices.Concat(clean(1, x, other), clean(2, y))
	dir := untouched(t, both, reportOf(9, 0, 0, believed(seg1, seg2)...))
	checkDir(t, dir, seen(x, 1, 0), pointed(other, 1, len(whole(x))), seen(y, 2, 0))
	if s, errno := dir.Last("k"); s != seen(y, 2, 0) || errno != api.OK {
		t.Errorf("of two rivals it tells %+v, %d", s, errno)
	}
	// a copy: the one with the least place
	dir = untouched(t, slices.Concat(clean(2, y), clean(7, x, y), clean(3, y, x)), reportOf(5, 0, 0, believed(seg2, seg3, "seg-00000007.log")...))
	if s, errno := dir.Last("k"); s != seen(y, 2, 0) || errno != api.OK {
		t.Errorf("of copies it tells %+v, %d", s, errno)
	}
	// both in one segment
	dir = untouched(t, clean(1, x, y), reportOf(5, 0, 0, believed(seg1)...))
	checkDir(t, dir, seen(x, 1, 0), seen(y, 1, len(whole(x))))
	// a Delete and a Put
	dir = untouched(t, slices.Concat(clean(1, z), clean(2, x)), reportOf(5, 0, 0, believed(seg1, seg2)...))
	checkDir(t, dir, seen(z, 1, 0), seen(x, 2, 0))
	if s, errno := dir.Last("k"); s != seen(z, 1, 0) || errno != api.OK { // 02 is greater than 01
		t.Errorf("of a Delete and a Put it tells %+v, %d", s, errno)
	}
	// rivals that do not count are not wanted
	newer := put(6, "k", "newest")
	dir = untouched(t, append(both, clean(3, newer)...), reportOf(9, 0, 0, believed(seg1, seg2, seg3)...))
	checkDir(t, dir, pointed(x, 1, 0), pointed(other, 1, len(whole(x))), pointed(y, 2, 0), pointed(newer, 3, 0))
}

// A rival that is believed beside one that is looked into, which moves by the steps.
func TestPlanOfRivalsOfWhichOneIsLookedInto(t *testing.T) {
	x, y := put(5, "k", "x"), put(5, "k", "y")
	for _, first := range []api.Record{x, y} {
		for _, second := range []api.Record{x, y} {
			for _, ahead := range []string{"", "junk"} {
				l := slices.Concat(clean(2, recA, first), files(seg1, ahead+laid(second)))
				_, dir, errno := checkPlan(t, l, room)
				if errno != api.OK {
					t.Fatalf("Plan: %d", errno)
				}
				checkDir(t, dir, seen(second, 1, 0), pointed(recA, 2, 0), seen(first, 2, len(a)))
				want := seen(second, 1, 0)
				if first.Value > second.Value {
					want = seen(first, 2, len(a))
				}
				if s, errno := dir.Last("k"); s != want || errno != api.OK {
					t.Errorf("it tells %+v, %d, want %+v", s, errno, want)
				}
			}
		}
	}
}

func TestPlanOfFilesThatMayNotBe(t *testing.T) {
	l := clean(1, recA)
	full := sumOf(l)
	check := func(l []api.File, capacity int) {
		t.Helper()
		p, dir, errno := checkPlan(t, l, capacity)
		if dir != nil || errno != api.ErrPlanArg || p.Steps != nil || p.Report.Files != nil || sayPlan(p) != sayPlan(api.Plan{}) {
			t.Errorf("Plan of %s for %d bytes = %s, %v, %d", sayFiles(l), capacity, sayPlan(p), dir, errno)
		}
	}
	for _, capacity := range []int{-1, math.MinInt, api.MaxDisk + 1, math.MaxInt, full - 1, 0} {
		check(l, capacity)
	}
	check(nil, -1)
	check(nil, api.MaxDisk+1)
	for _, twice := range []string{seg1, hint1, "other", "x.tmp", bad1} {
		check(append(slices.Clone(l), files(twice, "", twice, "x")...), room)
	}
	check(append(slices.Clone(l), files("", "x")...), room)
	check(append(slices.Clone(l), files(name61, "x")...), room)
	check(append(slices.Clone(l), files(seg2, "junk", name61, "x")...), full+5) // ahead of that there is no room
	check(append(files("other", strings.Repeat("x", api.MaxDisk-full+1)), l...), api.MaxDisk)
	check(files(seg1, "x", seg1, "x"), room)
	// just as much as may be
	p, dir, errno := fast.Plan(append(files(name60, strings.Repeat("x", api.MaxDisk-full)), l...), api.MaxDisk)
	if errno != api.OK || len(p.Steps) > 0 || p.Peak != api.MaxDisk {
		t.Fatalf("Plan of a full disk = %s, %d", sayPlan(p), errno)
	}
	checkDir(t, dir, pointed(recA, 1, 0))
}

// Room is needed for what is done alone: not for segments that are believed.
func TestPlanWithLittleRoom(t *testing.T) {
	caught := with(3, lie(0, says(100, api.Put, "c"), recC), recC)
	for _, l := range [][]api.File{
		slices.Concat(clean(1, recA), files(seg2, b)), slices.Concat(clean(1, recA), files(seg2, b+"junk")), slices.Concat(clean(1, recA), files(seg2, "junk"+b, hint2, "x")),
		slices.Concat(clean(1, recA), caught), slices.Concat(clean(1, recA), caught, files("x.tmp", "temp")), clean(1, recA), append(files("seg-00000009.hint", "o"), clean(1, recA)...),
	} {
		p, _, errno := checkPlan(t, l, room)
		if errno != api.OK {
			t.Fatalf("Plan of %s: %d", sayFiles(l), errno)
		}
		if q, dir, errno := checkPlan(t, l, p.Peak); errno != api.OK || dir == nil || sayPlan(q) != sayPlan(p) {
			t.Errorf("Plan of %s for just %d bytes = %s, %d", sayFiles(l), p.Peak, sayPlan(q), errno)
		}
		for capacity := sumOf(l); capacity < p.Peak; capacity++ {
			if q, dir, errno := checkPlan(t, l, capacity); errno != api.ErrPlanFull || dir != nil || sayPlan(q) != sayPlan(api.Plan{}) {
				t.Fatalf("Plan of %s for %d bytes = %s, %v, %d", sayFiles(l), capacity, sayPlan(q), dir, errno)
			}
		}
	}
	// looking at everything would need room here, which is not there
	s := a + "xy"
	l := append(clean(2, put(8, "a", "newer")), files(seg1, s, hint1, hintsOf(s, covering(s)...))...)
	if _, errno := plan.Deep(l, sumOf(l)); errno != api.ErrPlanFull {
		t.Fatalf("plan.Deep: %d", errno)
	}
	if _, _, errno := checkPlan(t, l, sumOf(l)); errno != api.OK {
		t.Errorf("Plan: %d", errno)
	}
}

// In whatever order files stand.
func TestPlanAndTheOrderOfFiles(t *testing.T) {
	r := source()
	for range 300 {
		l := anyDirectory(r)
		p, dir, errno := fast.Plan(l, room)
		keys := keysOf(append(seenByWords(l), beliefsAtFirst(l).tells(l)...))
		before := fmt.Sprint(sayPlan(p), tell(dir, keys), errno)
		for range 5 {
			r.Shuffle(len(l), func(i, k int) { l[i], l[k] = l[k], l[i] })
			p, dir, errno := fast.Plan(l, room)
			if now := fmt.Sprint(sayPlan(p), tell(dir, keys), errno); now != before {
				t.Fatalf("Plan of %s tells\n  %s, in another order\n  %s", sayFiles(l), now, before)
			}
		}
	}
}

func TestPlanOfRecordsAtTheEdges(t *testing.T) {
	l := []api.Record{
		put(1<<64-1, strings.Repeat("\xa7", 64), strings.Repeat("\xa6", 2048)), gone(1, "\x00"), put(0xa7, "\xa6\xa7", ""), gone(1<<63, strings.Repeat("k", 64)),
		put(1<<64-1, strings.Repeat("\xa7", 64), strings.Repeat("\xa7", 2048)),
	}
	var want []api.Seen
	for i, p := range pointersTo(l...) {
		if i == 0 || i == 4 {
			want = append(want, seen(l[i], 1, p.At))
		} else {
			want = append(want, pointed(l[i], 1, p.At))
		}
	}
	checkDir(t, untouched(t, clean(1, l...), reportOf(1<<64-1, 0, 0, believed(seg1)...)), want...)
}
