package plan_test

import (
	"fmt"
	"slices"
	"strings"
	"testing"

	"salvor/api"
	"salvor/plan"
)

const room = 100000

var (
	recA, recB, recC = put(7, "a", "x"), gone(3, "bb"), put(5, "c", "")
	a, b, c          = whole(recA), whole(recB), whole(recC)
	pointer, foot    = hintFrame(pointersTo(recA)[0]), footFrame(api.Ending{Count: 3})
)

// salvaged holds the steps of a plan, what is told of the files, and what comes of them; and that it is what the chapter's words ask for.
func salvaged(t *testing.T, l []api.File, steps []api.Step, accounts []api.Account, then ...string) api.Plan {
	t.Helper()
	p, errno := plan.Deep(l, room)
	if errno != api.OK || saySteps(p.Steps) != saySteps(steps) {
		t.Errorf("Deep of %s: %d\n  %s, want\n  %s", sayFiles(l), errno, saySteps(p.Steps), saySteps(steps))
	}
	if got, want := sayReport(api.Report{Files: p.Report.Files}), sayReport(api.Report{Files: accounts}); got != want {
		t.Errorf("Deep of %s:\n  %s, want\n  %s", sayFiles(l), got, want)
	}
	want, _ := deepByWords(l, room)
	checkDeep(t, l, room, nil, want, api.OK)
	checkApply(t, l, p.Steps, files(then...), api.OK)
	checkPeak(t, l, p.Steps, p.Peak)
	return p
}

func segmentOf(name string, hint api.Verdict, bad string, extents ...api.Extent) api.Account {
	return api.Account{Name: name, Class: api.Segment, Hint: hint, Bad: bad, Extents: extents}
}

func isFrame(at, size int) api.Extent { return api.Extent{At: at, Len: size} }

func isJunk(at, size int) api.Extent { return api.Extent{Junk: true, At: at, Len: size} }

func TestDeepOfNoFiles(t *testing.T) {
	for _, l := range [][]api.File{nil, {}, files(seg1, a)[:0]} {
		salvaged(t, l, nil, nil)
		for _, capacity := range []int{0, 1, 4194304} {
			checkDeep(t, l, capacity, nil, api.Plan{}, api.OK)
			checkDeep(t, l, capacity, []uint32{1, 0}, api.Plan{}, api.OK)
		}
	}
}

func TestDeepOfFilesThatAreNotOurs(t *testing.T) {
	l := files("readme", "r", "seg-0000000A.log", a+"x", bad1, "b", "seg-00000000.hint", "x", "bad-00000000.bin", "", "tmp", a, ".tmp2", "x", "x.TMP", "y")
	want, _ := applyByWords(l)
	p, errno := plan.Deep(l, sumOf(l))
	if errno != api.OK || sayPlan(p) != sayPlan(api.Plan{Peak: sumOf(l)}) {
		t.Errorf("Deep = %s, %d", sayPlan(p), errno)
	}
	checkApply(t, l, p.Steps, want, api.OK)
}

func TestDeepRemovesTempsFirst(t *testing.T) {
	salvaged(t, files("x.tmp", "x"), []api.Step{remove("x.tmp")}, nil)
	l := files("x.tmp", "x", seg1, "", ".tmp", "", "seg-00000001.log.tmp", a, "A.tmp", "", "x.tmp.tmp", "", hint2+".tmp", "y", bad1+".tmp", "z", "x", "1")
	steps := []api.Step{remove(".tmp"), remove("A.tmp"), remove(bad1 + ".tmp"), remove("seg-00000001.log.tmp"), remove(hint2 + ".tmp"), remove("x.tmp"), remove("x.tmp.tmp")}
	steps = append(steps, ahead(hint1, rightFor())...)
	p := salvaged(t, l, steps, []api.Account{segmentOf(seg1, api.HintMissing, "")}, hint1, rightFor(), seg1, "", "x", "1")
	if p.Report.Frames != 0 || p.Report.Top != 0 {
		t.Errorf("what lies in temp files is told: %s", sayReport(p.Report))
	}
}

func TestDeepOfACleanSegment(t *testing.T) {
	accounts := func(v api.Verdict) []api.Account {
		return []api.Account{segmentOf(seg1, v, "", isFrame(0, len(a)), isFrame(len(a), len(b)))}
	}
	right := rightFor(recA, recB)
	salvaged(t, files(seg1, a+b), ahead(hint1, right), accounts(api.HintMissing), hint1, right, seg1, a+b)
	salvaged(t, files(seg1, a+b, hint1, right), nil, accounts(api.HintFine), hint1, right, seg1, a+b)
	salvaged(t, files(hint1, right, seg1, a+b), nil, accounts(api.HintFine), hint1, right, seg1, a+b)
}

func TestDeepOfASegmentWithoutBytes(t *testing.T) {
	right := rightFor()
	salvaged(t, files(seg1, ""), ahead(hint1, right), []api.Account{segmentOf(seg1, api.HintMissing, "")}, hint1, right, seg1, "")
	salvaged(t, files(seg1, "", hint1, right), nil, []api.Account{segmentOf(seg1, api.HintFine, "")}, hint1, right, seg1, "")
	salvaged(t, files(seg1, "", hint1, ""), ahead(hint1, right), []api.Account{segmentOf(seg1, api.HintDamaged, "")}, hint1, right, seg1, "")
	none := []api.File{{Name: seg1}}
	salvaged(t, none, ahead(hint1, right), []api.Account{segmentOf(seg1, api.HintMissing, "")}, hint1, right, seg1, "")
}

// Junk at the end alone is cut off; junk anywhere else has the segment written anew.
func TestDeepOfASegmentWithJunk(t *testing.T) {
	n, m := len(a), len(b)
	right, bare := rightFor(recA, recB), rightFor()
	anew := func(junk string) []api.Step {
		return slices.Concat(ahead(bad1, junk), ahead(seg1, a+b), ahead(hint1, right))
	}
	salvaged(t, files(seg1, "xyz"+a+b), anew("xyz"),
		[]api.Account{segmentOf(seg1, api.HintMissing, bad1, isJunk(0, 3), isFrame(3, n), isFrame(3+n, m))}, bad1, "xyz", hint1, right, seg1, a+b)
	salvaged(t, files(seg1, a+"xyz"+b), anew("xyz"),
		[]api.Account{segmentOf(seg1, api.HintMissing, bad1, isFrame(0, n), isJunk(n, 3), isFrame(n+3, m))}, bad1, "xyz", hint1, right, seg1, a+b)
	salvaged(t, files(seg1, "p"+a+"qq"+b+"rrr"), anew("pqqrrr"),
		[]api.Account{segmentOf(seg1, api.HintMissing, bad1, isJunk(0, 1), isFrame(1, n), isJunk(1+n, 2), isFrame(3+n, m), isJunk(3+n+m, 3))}, bad1, "pqqrrr", hint1, right, seg1, a+b)
	salvaged(t, files(seg1, a+"qq"+b+"rrr"), anew("qqrrr"),
		[]api.Account{segmentOf(seg1, api.HintMissing, bad1, isFrame(0, n), isJunk(n, 2), isFrame(2+n, m), isJunk(2+n+m, 3))}, bad1, "qqrrr", hint1, right, seg1, a+b)
	salvaged(t, files(seg1, a+b+"xyz"), slices.Concat(ahead(bad1, "xyz"), []api.Step{truncate(seg1, n+m)}, ahead(hint1, right)),
		[]api.Account{segmentOf(seg1, api.HintMissing, bad1, isFrame(0, n), isFrame(n, m), isJunk(n+m, 3))}, bad1, "xyz", hint1, right, seg1, a+b)
	salvaged(t, files(seg1, "xyz"), slices.Concat(ahead(bad1, "xyz"), []api.Step{truncate(seg1, 0)}, ahead(hint1, bare)),
		[]api.Account{segmentOf(seg1, api.HintMissing, bad1, isJunk(0, 3))}, bad1, "xyz", hint1, bare, seg1, "")
	half := b[:m-1]
	salvaged(t, files(seg1, a+half), slices.Concat(ahead(bad1, half), []api.Step{truncate(seg1, n)}, ahead(hint1, rightFor(recA))),
		[]api.Account{segmentOf(seg1, api.HintMissing, bad1, isFrame(0, n), isJunk(n, m-1))}, bad1, half, hint1, rightFor(recA), seg1, a)
}

// What is written anew has the bytes of its frames; a frame that comes of runs of junk, laid one behind the other, is in quarantine alone.
func TestDeepOfJunkThatWouldBeAFrame(t *testing.T) {
	s := b[:4] + a + b[4:]
	p := salvaged(t, files(seg1, s), slices.Concat(ahead(bad1, b), ahead(seg1, a), ahead(hint1, rightFor(recA))),
		[]api.Account{segmentOf(seg1, api.HintMissing, bad1, isJunk(0, 4), isFrame(4, len(a)), isJunk(4+len(a), len(b)-4))}, bad1, b, hint1, rightFor(recA), seg1, a)
	if p.Report.Frames != 1 || p.Report.Junk != len(b) || p.Report.Top != 7 {
		t.Errorf("it tells %s", sayReport(p.Report))
	}
}

// A segment with a frame of another kind may have no hint file.
func TestDeepOfASegmentWithOtherFrames(t *testing.T) {
	for _, other := range []string{pointer, foot} {
		n, m := len(a), len(other)
		salvaged(t, files(seg1, other), nil, []api.Account{segmentOf(seg1, api.HintNone, "", isFrame(0, m))}, seg1, other)
		salvaged(t, files(seg1, a+other), nil, []api.Account{segmentOf(seg1, api.HintNone, "", isFrame(0, n), isFrame(n, m))}, seg1, a+other)
		damaged := []api.Account{segmentOf(seg1, api.HintDamaged, "", isFrame(0, m))}
		salvaged(t, files(seg1, other, hint1, "x"), []api.Step{remove(hint1)}, damaged, seg1, other)
		salvaged(t, files(seg1, other, hint1, ""), []api.Step{remove(hint1)}, damaged, seg1, other)
		stale := []api.Account{segmentOf(seg1, api.HintStale, "", isFrame(0, n), isFrame(n, m))}
		salvaged(t, files(seg1, a+other, hint1, rightFor(recA)), []api.Step{remove(hint1)}, stale, seg1, a+other)
		forged := []api.Account{segmentOf(seg1, api.HintForged, "", isFrame(0, m))}
		lie := hintsOf(other, 1, api.Pointer{LSN: 1, Kind: api.Put, At: 0, Len: m, Key: "k"})
		salvaged(t, files(seg1, other, hint1, lie), []api.Step{remove(hint1)}, forged, seg1, other)
		junk := []api.Account{segmentOf(seg1, api.HintDamaged, bad1, isJunk(0, 1), isFrame(1, m))}
		salvaged(t, files(seg1, "x"+other, hint1, "y"), slices.Concat(ahead(bad1, "x"), ahead(seg1, other), []api.Step{remove(hint1)}), junk, bad1, "x", seg1, other)
		cut := []api.Account{segmentOf(seg1, api.HintNone, bad1, isFrame(0, m), isJunk(m, 1))}
		salvaged(t, files(seg1, other+"x"), append(ahead(bad1, "x"), truncate(seg1, m)), cut, bad1, "x", seg1, other)
	}
}

func TestDeepOfHintFilesThatAreNotRight(t *testing.T) {
	n, m := len(a), len(b)
	right := rightFor(recA, recB)
	p := pointersTo(recA, recB)
	lie := func(turn func(l []api.Pointer)) string {
		l := slices.Clone(p)
		turn(l)
		return hintsOf(a+b, 2, l...)
	}
	for _, x := range []struct {
		data    string
		verdict api.Verdict
	}{
		{"", api.HintDamaged},
		{"x", api.HintDamaged},
		{right + "x", api.HintDamaged},
		{right[:len(right)-1], api.HintDamaged},
		{"x" + right[1:], api.HintDamaged},
		{right + right, api.HintDamaged},
		{a + b, api.HintDamaged},
		{hintsOf(a+b, 2, p[1], p[0]), api.HintDamaged},
		{rightFor(recA), api.HintStale},
		{rightFor(), api.HintStale},
		{rightFor(recA, recB, recC), api.HintStale},
		{hintsOf(a+b[:m-1]+"x", 2, p...), api.HintStale}, // another sum alone
		{lie(func(l []api.Pointer) { l[1].Key = "cc" }), api.HintForged},
		{lie(func(l []api.Pointer) { l[0].LSN = 8 }), api.HintForged},
		{lie(func(l []api.Pointer) { l[1].Kind = api.Put }), api.HintForged},
		{lie(func(l []api.Pointer) { l[0].Len--; l[1].At--; l[1].Len++ }), api.HintForged},
	} {
		accounts := []api.Account{segmentOf(seg1, x.verdict, "", isFrame(0, n), isFrame(n, m))}
		salvaged(t, files(seg1, a+b, hint1, x.data), ahead(hint1, right), accounts, hint1, right, seg1, a+b)
	}
}

// The verdict is for what is left of the segment, not for what it was.
func TestDeepOfHintFilesBesideJunk(t *testing.T) {
	n, m := len(a), len(b)
	right := rightFor(recA, recB)
	for _, x := range []struct {
		data    string
		verdict api.Verdict
	}{
		{right, api.HintFine}, {rightFor(recA), api.HintStale}, {right[1:], api.HintDamaged},
		{hintsOf(a+"x"+b, 2, pointersTo(recA, recB)...), api.HintDamaged},
		{hintsOf(a+b, 2, pointersTo(recA, gone(4, "bb"))...), api.HintForged},
	} {
		var mended []api.Step
		if x.verdict != api.HintFine {
			mended = ahead(hint1, right)
		}
		behind := []api.Account{segmentOf(seg1, x.verdict, bad1, isFrame(0, n), isFrame(n, m), isJunk(n+m, 2))}
		salvaged(t, files(seg1, a+b+"xy", hint1, x.data), slices.Concat(ahead(bad1, "xy"), []api.Step{truncate(seg1, n+m)}, mended), behind, bad1, "xy", hint1, right, seg1, a+b)
		among := []api.Account{segmentOf(seg1, x.verdict, bad1, isFrame(0, n), isJunk(n, 1), isFrame(n+1, m))}
		salvaged(t, files(seg1, a+"x"+b, hint1, x.data), slices.Concat(ahead(bad1, "x"), ahead(seg1, a+b), mended), among, bad1, "x", hint1, right, seg1, a+b)
	}
}

func orphan(name string) api.Account {
	return api.Account{Name: name, Class: api.Hints, Hint: api.HintOrphan}
}

func TestDeepOfOrphans(t *testing.T) {
	salvaged(t, files(hint2, "x"), []api.Step{remove(hint2)}, []api.Account{orphan(hint2)})
	salvaged(t, files(hint2, ""), []api.Step{remove(hint2)}, []api.Account{orphan(hint2)})
	salvaged(t, files(hint1, rightFor(recA), seg2+".tmp", a), []api.Step{remove(seg2 + ".tmp"), remove(hint1)}, []api.Account{orphan(hint1)})
	l := files("seg-ffffffff.hint", "1", "seg-0000000a.hint", "", hint2, "y", seg1, a, hint1, rightFor(recA), "seg-0000000B.log", a, bad3, "q", "seg-00000003.log.hint", "z")
	steps := []api.Step{remove(hint2), remove("seg-0000000a.hint"), remove("seg-ffffffff.hint")}
	accounts := []api.Account{segmentOf(seg1, api.HintFine, "", isFrame(0, len(a))), orphan(hint2), orphan("seg-0000000a.hint"), orphan("seg-ffffffff.hint")}
	salvaged(t, l, steps, accounts, bad3, "q", hint1, rightFor(recA), seg1, a, "seg-00000003.log.hint", "z", "seg-0000000B.log", a)
	// what lies in one is not looked at: neither its records nor its junk
	p := salvaged(t, files(hint1, a+"junk"), []api.Step{remove(hint1)}, []api.Account{orphan(hint1)})
	if p.Report.Top != 0 || p.Report.Frames != 0 || p.Report.Junk != 0 {
		t.Errorf("of an orphan it tells %s", sayReport(p.Report))
	}
}

// Quarantine files stay as they are, and the next free number is taken each time.
func TestDeepBesideQuarantineFiles(t *testing.T) {
	bare := rightFor()
	steps := func(bads ...string) []api.Step {
		var l []api.Step
		for i, bad := range bads {
			n := string(rune('1' + i))
			l = slices.Concat(l, ahead(bad, n), []api.Step{truncate("seg-0000000"+n+".log", 0)}, ahead("seg-0000000"+n+".hint", bare))
		}
		return l
	}
	check := func(l []api.File, want ...string) {
		t.Helper()
		p, errno := plan.Deep(l, room)
		kept := slices.DeleteFunc(slices.Clone(p.Steps), func(s api.Step) bool { return s.Op == api.StepRemove })
		if errno != api.OK || saySteps(kept) != saySteps(steps(want...)) {
			t.Errorf("Deep of %s = %s, %d", sayFiles(l), saySteps(p.Steps), errno)
		}
		for i, a := range p.Report.Files {
			if a.Bad != want[i] {
				t.Errorf("of %s the junk of %q is in %q", sayFiles(l), a.Name, a.Bad)
			}
		}
		byWords, _ := deepByWords(l, room)
		checkDeep(t, l, room, nil, byWords, api.OK)
	}
	l := files(seg1, "1", seg2, "2", seg3, "3")
	check(l, bad1, bad2, bad3)
	check(append(l, files(bad1, "old")...), bad2, bad3, "bad-00000004.bin")
	check(append(l, files(bad2, "old")...), bad1, bad3, "bad-00000004.bin")
	check(append(l, files(bad3, "", bad1, "")...), bad2, "bad-00000004.bin", "bad-00000005.bin")
	check(append(l, files(bad1+".tmp", "old", bad2, "")...), bad1, bad3, "bad-00000004.bin") // that number is free: the temp is gone by then
	check(append(l, files("bad-ffffffff.bin", "", "bad-00000000.bin", "", "bad-1.bin", "", "bad-00000002.bin ", "")...), bad1, bad2, bad3)
	many := slices.Clone(l)
	for n := 1; n <= 0x20; n++ {
		many = append(many, files(fmt.Sprintf("bad-%08x.bin", n), "old")...)
	}
	check(many, "bad-00000021.bin", "bad-00000022.bin", "bad-00000023.bin")
}

// Segments go by numbers, whatever the order of the list; each is done whole ahead of the next.
func TestDeepOfSeveralSegments(t *testing.T) {
	l := files("seg-0000000a.log", "x"+a, seg2, b+"y", seg1, c, "x.tmp", "", "seg-00000009.hint", "")
	steps := slices.Concat([]api.Step{remove("x.tmp")}, ahead(hint1, rightFor(recC)),
		ahead(bad1, "y"), []api.Step{truncate(seg2, len(b))}, ahead(hint2, rightFor(recB)),
		ahead(bad2, "x"), ahead("seg-0000000a.log", a), ahead("seg-0000000a.hint", rightFor(recA)), []api.Step{remove("seg-00000009.hint")})
	accounts := []api.Account{
		segmentOf(seg1, api.HintMissing, "", isFrame(0, len(c))), segmentOf(seg2, api.HintMissing, bad1, isFrame(0, len(b)), isJunk(len(b), 1)),
		segmentOf("seg-0000000a.log", api.HintMissing, bad2, isJunk(0, 1), isFrame(1, len(a))), orphan("seg-00000009.hint"),
	}
	for range 2 {
		slices.Reverse(l)
		p := salvaged(t, l, steps, accounts, bad1, "y", bad2, "x", hint1, rightFor(recC), seg1, c, hint2, rightFor(recB), seg2, b, "seg-0000000a.hint", rightFor(recA), "seg-0000000a.log", a)
		if p.Report.Top != 7 || p.Report.Frames != 3 || p.Report.Junk != 2 {
			t.Errorf("it tells %s", sayReport(p.Report))
		}
	}
}

// Top is of records alone, of Deletes too; frames of all kinds are counted.
func TestDeepReports(t *testing.T) {
	far := hintFrame(api.Pointer{LSN: 1 << 60, Kind: api.Put, Len: 14, Key: "k"})
	for _, x := range []struct {
		l            []api.File
		top          uint64
		frames, junk int
	}{
		{files(seg1, ""), 0, 0, 0},
		{files(seg1, "junk"), 0, 0, 4},
		{files(seg1, far+foot), 0, 2, 0},
		{files(seg1, a+far+b+foot), 7, 4, 0},
		{files(seg1, whole(gone(1<<64-1, "k"))+a), 1<<64 - 1, 2, 0},
		{files(seg1, a, seg2, whole(gone(9, "k"))+"xx", seg3, "y"+b), 9, 3, 3},
		{files(seg1, a, hint1, whole(put(99, "k", "")), seg2+".tmp", whole(put(98, "k", "")), bad1, whole(put(97, "k", ""))), 7, 1, 0},
		{files("other", whole(put(99, "k", ""))+"x"), 0, 0, 0},
	} {
		p, errno := plan.Deep(x.l, room)
		if errno != api.OK || p.Report.Top != x.top || p.Report.Frames != x.frames || p.Report.Junk != x.junk {
			t.Errorf("Deep of %s tells %s, %d", sayFiles(x.l), sayReport(p.Report), errno)
		}
	}
}

// A trusted segment is not looked into, and neither it nor its hint file is touched.
func TestDeepWithTrustedSegments(t *testing.T) {
	l := files(seg1, "x"+a, hint1, "lie", seg2, b+"y", hint2, "lie", seg3, foot, "seg-00000009.hint", "o", "x.tmp", "")
	trusted1 := segmentOf(seg1, api.HintFine, "")
	trusted2 := segmentOf(seg2, api.HintFine, "")
	two := slices.Concat(ahead(bad1, "y"), []api.Step{truncate(seg2, len(b))}, ahead(hint2, rightFor(recB)))
	told2 := segmentOf(seg2, api.HintDamaged, bad1, isFrame(0, len(b)), isJunk(len(b), 1))
	told3 := segmentOf(seg3, api.HintNone, "", isFrame(0, len(foot)))
	check := func(steps []api.Step, r api.Report, trusted ...uint32) {
		t.Helper()
		steps = slices.Concat([]api.Step{remove("x.tmp")}, steps, []api.Step{remove("seg-00000009.hint")})
		r.Files = append(r.Files, orphan("seg-00000009.hint"))
		checkDeep(t, l, room, trusted, api.Plan{Steps: steps, Report: r, Peak: peakByWords(l, steps...)}, api.OK)
		byWords, _ := deepByWords(l, room, trusted...)
		checkDeep(t, l, room, trusted, byWords, api.OK)
	}
	one := api.Report{Files: []api.Account{trusted1, told2, told3}, Top: 3, Frames: 2, Junk: 1}
	for _, trusted := range [][]uint32{{1}, {1, 1}, {1, 0}, {4, 1, 1<<32 - 1, 1}, {9, 1}} { // 9 has a hint file, but no segment: it goes all the same
		check(two, one, trusted...)
	}
	check(nil, api.Report{Files: []api.Account{trusted1, trusted2, told3}, Frames: 1}, 2, 1)
	check(nil, api.Report{Files: []api.Account{trusted1, trusted2, segmentOf(seg3, api.HintFine, "")}}, 3, 1, 2)
	none, _ := deepByWords(l, room)
	for _, trusted := range [][]uint32{nil, {}, {0}, {4, 5, 9}, {1<<32 - 1, 0, 0}, {100, 100}} {
		checkDeep(t, l, room, trusted, none, api.OK)
	}
	// one without a hint file gets none
	checkDeep(t, files(seg1, a), room, []uint32{1}, api.Plan{Report: api.Report{Files: []api.Account{trusted1}}, Peak: len(a)}, api.OK)
}

func TestTheChaptersExamples(t *testing.T) {
	rec1, rec2 := put(1, "k", "v"), put(2, "k", "w")
	one, two := whole(rec1), whole(rec2)
	if len(one) != 14 {
		t.Fatalf("the frame has %d bytes", len(one))
	}
	steps := func(l []api.File) string {
		p, errno := plan.Deep(l, room)
		if errno != api.OK {
			t.Errorf("Deep of %s: %d", sayFiles(l), errno)
		}
		return saySteps(p.Steps)
	}
	for _, x := range []struct {
		l    []api.File
		want []api.Step
	}{
		{nil, nil},
		{files(seg1, one), ahead(hint1, rightFor(rec1))},
		{files(seg1, one+"xx"+two, "x.tmp", "q"), slices.Concat([]api.Step{remove("x.tmp")}, ahead(bad1, "xx"), ahead(seg1, one+two), ahead(hint1, rightFor(rec1, rec2)))},
		{files(seg1, one+"xx", hint1, rightFor(rec1)), append(ahead(bad1, "xx"), truncate(seg1, 14))},
		{files("seg-00000007.hint", "anything"), []api.Step{remove("seg-00000007.hint")}},
		{files(seg1, pointer, hint1, "anything"), []api.Step{remove(hint1)}},
	} {
		if got := steps(x.l); got != saySteps(x.want) {
			t.Errorf("of %s:\n  %s, want\n  %s", sayFiles(x.l), got, saySteps(x.want))
		}
	}
}

// In a plan the fields that an Op does not need are noughts, and so are those of an account that has nothing to say.
func TestFieldsOfAPlan(t *testing.T) {
	p, _ := plan.Deep(files("x.tmp", "q", seg1, "x"+a, seg2, b+"y", hint1, "z", "seg-00000009.hint", "o"), room)
	seen := [6]int{}
	for _, s := range p.Steps {
		seen[s.Op]++
		bare := api.Step{Op: s.Op, Name: s.Name}
		switch s.Op {
		case api.StepWrite:
			bare.Data = s.Data
		case api.StepRename:
			bare.To = s.To
		case api.StepTruncate:
			bare.N = s.N
		}
		if saySteps([]api.Step{s}) != saySteps([]api.Step{bare}) || s.Op != api.StepWrite && s.Data != nil {
			t.Errorf("more than needed: %s", saySteps([]api.Step{s}))
		}
	}
	if slices.Contains(seen[1:], 0) {
		t.Errorf("not every Op is planned: %v", seen)
	}
}

func TestCapacitiesThatMayNotBe(t *testing.T) {
	l := files(seg1, "x"+a)
	for _, capacity := range []int{-1, -2, 4194305, 1 << 31, 1 << 32, 1 << 62, -1 << 63, 1<<63 - 1} {
		checkDeep(t, l, capacity, nil, api.Plan{}, api.ErrPlanArg)
		checkDeep(t, nil, capacity, nil, api.Plan{}, api.ErrPlanArg)
		checkDeep(t, l, capacity, []uint32{1}, api.Plan{}, api.ErrPlanArg)
		checkDeep(t, files("", ""), capacity, nil, api.Plan{}, api.ErrPlanArg)
	}
	p, errno := plan.Deep(l, 4194304)
	if errno != api.OK || len(p.Steps) != 9 {
		t.Errorf("with the greatest capacity: %s, %d", sayPlan(p), errno)
	}
	checkDeep(t, files("empty", ""), 0, nil, api.Plan{}, api.OK)
	checkDeep(t, files(seg1, ""), 0, nil, api.Plan{}, api.ErrPlanFull)
	checkDeep(t, files(seg1, ""), 0, []uint32{1}, api.Plan{Report: api.Report{Files: []api.Account{segmentOf(seg1, api.HintFine, "")}}}, api.OK)
	checkDeep(t, files("x", "1"), 0, nil, api.Plan{}, api.ErrPlanArg)
	checkDeep(t, files("x.tmp", "1"), 0, nil, api.Plan{}, api.ErrPlanArg)
	checkDeep(t, files("x.tmp", ""), 0, nil, api.Plan{Steps: []api.Step{remove("x.tmp")}}, api.OK)
}

// roomCases are directories whose plans are at their peak at different steps.
func roomCases() [][]api.File {
	long := strings.Repeat("v", 1000)
	return [][]api.File{
		files(seg1, a), files(seg1, "x"+a), files(seg1, a+"x"), files(seg1, a+long), files(seg1, long), files(seg1, whole(put(1, "k", long))+"x"+a),
		files(seg1, "x"+whole(put(1, "k", long)), seg2, a), files(seg1, a, seg2, "x"+whole(put(1, "k", long))),
		files("x.tmp", long, seg1, "x"+a), files("x.tmp", long+long, seg1, "x"+whole(put(1, "k", long))), files(seg1, "", hint1, long), files(seg1, foot, hint1, long, seg2, long),
		files("seg-00000009.hint", long, seg1, "x"+a), files("other", long, bad1, long, seg1, a+"x"+b), files(seg1, a, hint1, rightFor(recA)), files(hint1, long), nil, files("x.tmp", "x"),
	}
}

// With just Peak as the capacity there is a plan, with less there is none.
func TestDeepWithJustEnoughRoom(t *testing.T) {
	tight := 0
	for _, l := range roomCases() {
		p, errno := plan.Deep(l, room)
		if errno != api.OK || p.Peak != peakByWords(l, p.Steps...) {
			t.Fatalf("Deep of %s = %s, %d", sayFiles(l), sayPlan(p), errno)
		}
		checkDeep(t, l, p.Peak, nil, p, api.OK)
		checkDeep(t, l, p.Peak+1, nil, p, api.OK)
		sum := sumOf(l)
		if p.Peak > sum {
			tight++
			checkDeep(t, l, p.Peak-1, nil, api.Plan{}, api.ErrPlanFull)
			checkDeep(t, l, sum, nil, api.Plan{}, api.ErrPlanFull) // just as great as the files
			checkDeep(t, l, (p.Peak+sum)/2, nil, api.Plan{}, api.ErrPlanFull)
		}
		checkDeep(t, l, sum-1, nil, api.Plan{}, api.ErrPlanArg)
	}
	if tight < 10 {
		t.Errorf("of too few directories more room is needed than there is: %d", tight)
	}
}

// The greatest disk: full of what is right, of what must go, and of what leaves no room.
func TestDeepOfAFullDisk(t *testing.T) {
	big := make([]byte, 4194304)
	checkDeep(t, []api.File{{Name: "x", Data: big}}, 4194304, nil, api.Plan{Peak: 4194304}, api.OK)
	checkDeep(t, []api.File{{Name: "x", Data: big}}, 4194303, nil, api.Plan{}, api.ErrPlanArg)
	checkDeep(t, []api.File{{Name: "x.tmp", Data: big}}, 4194304, nil, api.Plan{Steps: []api.Step{remove("x.tmp")}, Peak: 4194304}, api.OK)
	checkDeep(t, []api.File{{Name: seg1, Data: big}}, 4194304, nil, api.Plan{}, api.ErrPlanFull)
	checkDeep(t, []api.File{{Name: seg1, Data: big}}, 4194304, []uint32{1}, api.Plan{Report: api.Report{Files: []api.Account{segmentOf(seg1, api.HintFine, "")}}, Peak: 4194304}, api.OK)
	half := api.File{Name: seg1, Data: big[:2097152]} // its junk aside, it is just full; then there is room for its hint file
	want := api.Plan{
		Steps:  slices.Concat(ahead(bad1, string(half.Data)), []api.Step{truncate(seg1, 0)}, ahead(hint1, rightFor())),
		Report: api.Report{Files: []api.Account{segmentOf(seg1, api.HintMissing, bad1, isJunk(0, 2097152))}, Junk: 2097152}, Peak: 4194304,
	}
	checkDeep(t, []api.File{half}, 4194304, nil, want, api.OK)
	checkDeep(t, []api.File{half, {Name: "x", Data: big[:1]}}, 4194304, nil, api.Plan{}, api.ErrPlanFull)
	orphans := []api.File{{Name: hint1, Data: big}}
	checkDeep(t, orphans, 4194304, nil, api.Plan{Steps: []api.Step{remove(hint1)}, Report: api.Report{Files: []api.Account{orphan(hint1)}}, Peak: 4194304}, api.OK)
}
