package merge_test

import (
	"fmt"
	"math"
	"slices"
	"strings"
	"testing"

	"salvor/api"
	"salvor/merge"
	"salvor/plan"
)

// planned holds what Plan tells of files: its steps, and the files that come of them; and that all of it is what the chapter's words ask for.
func planned(t *testing.T, l []api.File, size int, steps []api.Step, then []api.File) api.Plan {
	t.Helper()
	p, errno := checkPlan(t, l, size, room)
	if errno != api.OK || saySteps(p.Steps) != saySteps(steps) {
		t.Errorf("Plan of %s tells\n  %s, %d, want\n  %s", sayFiles(l), saySteps(p.Steps), errno, saySteps(steps))
	}
	if now, errno := plan.Apply(l, p.Steps...); !sameFiles(now, byNames(then)) || errno != api.OK {
		t.Errorf("of %s Plan makes\n  %s, %d, want\n  %s", sayFiles(l), sayFiles(now), errno, sayFiles(byNames(then)))
	}
	if peak := plan.Peak(l, p.Steps...); p.Peak != peak {
		t.Errorf("the peak of %s is %d, want %d", sayFiles(l), p.Peak, peak)
	}
	return p
}

// untouched holds that a plan of files has no steps.
func untouched(t *testing.T, l []api.File, size int, report api.Report) {
	t.Helper()
	p := planned(t, l, size, nil, l)
	if len(p.Steps) > 0 || p.Peak != sumOf(l) || sayReport(p.Report) != sayReport(report) {
		t.Errorf("of %s the plan is %s, want none, and %s", sayFiles(l), sayPlan(p), sayReport(report))
	}
	if q, errno := merge.Plan(l, size, sumOf(l)); errno != api.OK || sayPlan(q) != sayPlan(p) {
		t.Errorf("of %s, without any room, the plan is %s, %d", sayFiles(l), sayPlan(q), errno)
	}
}

func reportOf(top uint64, frames int, old ...string) api.Report {
	r := api.Report{Top: top, Frames: frames}
	for _, name := range old {
		r.Files = append(r.Files, api.Account{Name: name, Class: api.Segment})
	}
	return r
}

func removes(l ...string) []api.Step {
	var steps []api.Step
	for _, name := range l {
		steps = append(steps, remove(name))
	}
	return steps
}

// sized is a Put whose frame has so many bytes.
func sized(t *testing.T, lsn uint64, key string, size int) api.Record {
	t.Helper()
	r := put(lsn, key, "")
	r.Value = strings.Repeat("v", size-len(whole(r)))
	if len(whole(r)) != size {
		t.Fatalf("the frame has %d bytes, want %d", len(whole(r)), size)
	}
	return r
}

func TestPlanOfNothing(t *testing.T) {
	for _, size := range []int{64, 100, 1048576} {
		untouched(t, nil, size, api.Report{})
		untouched(t, []api.File{}, size, api.Report{})
		untouched(t, files("other", laid(put(1, "a", "")), hint1, "x", seg1+".tmp", "y", "seg-00000000.log", laid(put(1, "a", ""))), size, api.Report{})
	}
	for _, capacity := range []int{0, 1, 4194304} {
		if p, errno := merge.Plan(nil, 64, capacity); errno != api.OK || sayPlan(p) != sayPlan(api.Plan{}) {
			t.Errorf("Plan of nothing for %d bytes = %s, %d", capacity, sayPlan(p), errno)
		}
	}
}

// Segments that are no old ones alone: none is new, none is old, nothing is done; their records are in the report.
func TestPlanWithoutOldSegments(t *testing.T) {
	untouched(t, segments("junk", foot, laid(put(7, "a", "x"))+"junk", laid(put(9, "a", "y"), gone(3, "b"))+pointer), 64, reportOf(9, 0))
	untouched(t, append(segments("junk"), files(hint1, "x", hint2, "y")...), 64, reportOf(0, 0))
}

func TestPlanInSteps(t *testing.T) {
	x, y, z := put(1, "a", "x"), put(2, "a", "y"), put(3, "b", "z")
	// what one step does, and then the next one
	l := slices.Concat(clean(1, x, z), segments("", laid(y))[1:], files(seg3, laid(x)+"junk", "other", "rest"))
	p := planned(t, l, 64, slices.Concat(adds(4, y, z), removes(hint1, seg1, seg2)), slices.Concat(clean(4, y, z), files(seg3, laid(x)+"junk", "other", "rest")))
	if want := reportOf(3, 2, seg1, seg2); sayReport(p.Report) != sayReport(want) {
		t.Errorf("the report is %s, want %s", sayReport(p.Report), sayReport(want))
	}
	// the hint file of the first one is a temp file when most bytes are there
	if want := sumOf(l) + len(laid(y, z)) + len(rightFor(y, z)); p.Peak != want {
		t.Errorf("the peak is %d, want %d", p.Peak, want)
	}
	for i, s := range p.Steps {
		if s.Op != api.StepWrite && len(s.Data) > 0 || s.Op != api.StepRename && s.To != "" || s.N != 0 {
			t.Errorf("step %d has what it does not need: %+v", i, s)
		}
	}
}

// All that is kept goes: nothing is written, and the old ones are removed.
func TestPlanThatKeepsNothing(t *testing.T) {
	d := gone(9, "a")
	no := files(seg4, laid(put(10, "z", ""))+"junk")
	p := planned(t, append(clean(2, d), no...), 64, removes(hint2, seg2), no)
	if sayReport(p.Report) != sayReport(reportOf(10, 0, seg2)) || p.Peak != sumOf(no)+sumOf(clean(2, d)) {
		t.Errorf("the plan is %s", sayPlan(p))
	}
	planned(t, segments(laid(put(1, "a", "x")), laid(put(2, "a", "x"))+foot), 64, removes(seg1), segments("", laid(put(2, "a", "x"))+foot)[1:])
	// segments without bytes are old ones
	planned(t, segments("", ""), 64, removes(seg1, seg2), nil)
	planned(t, append(clean(1), clean(0xffffffff)...), 64, removes(hint1, seg1, "seg-ffffffff.hint", "seg-ffffffff.log"), nil)
	planned(t, segments("", laid(d)), 64, slices.Concat(adds(3, d), removes(seg1, seg2)), clean(3, d))
}

func TestPlanOfSizes(t *testing.T) {
	l := append(clean(1, put(1, "a", "x"), put(2, "a", "y")), files("other", "o")...)
	for _, size := range []int{63, 1048577, 0, 1, -1, -64, math.MinInt, math.MaxInt, 1 << 32, 1<<32 + 64} {
		for _, capacity := range []int{room, 0, -1, sumOf(l)} { // also where something else is wrong
			for _, l := range [][]api.File{l, append(files("", ""), l...), append(l, l...), nil} {
				if p, errno := checkPlan(t, l, size, capacity); errno != api.ErrMergeArg || p.Steps != nil || p.Report.Files != nil {
					t.Errorf("Plan of %s for segments of %d bytes = %s, %d", sayFiles(l), size, sayPlan(p), errno)
				}
			}
		}
	}
	for _, size := range []int{64, 65, 1048575, 1048576} {
		planned(t, l, size, slices.Concat(adds(2, put(2, "a", "y")), removes(hint1, seg1)), append(clean(2, put(2, "a", "y")), files("other", "o")...))
	}
}

// Files and capacities that plan.Deep refuses.
func TestPlanIsRefused(t *testing.T) {
	some := clean(1, put(1, "a", "x"), put(2, "a", "y"))
	great := make([]byte, api.MaxDisk-sumOf(some))
	for _, c := range []struct {
		l        []api.File
		capacity int
		want     api.Errno
	}{
		{some, -1, api.ErrPlanArg}, {some, math.MinInt, api.ErrPlanArg}, {some, 4194305, api.ErrPlanArg}, {some, math.MaxInt, api.ErrPlanArg}, {nil, -1, api.ErrPlanArg}, {nil, 4194305, api.ErrPlanArg},
		{some, sumOf(some) - 1, api.ErrPlanArg}, {some, sumOf(some), api.ErrPlanFull}, {some, 0, api.ErrPlanArg}, {nil, 0, api.OK}, {nil, 4194304, api.OK}, {some, 4194304, api.OK},
		{append(files("", "x"), some...), room, api.ErrPlanArg}, {append(files(name61, ""), some...), room, api.ErrPlanArg}, {append(files(name60, ""), some...), room, api.OK},
		{append(some, some...), room, api.ErrPlanArg}, {append(files("o", "", "o", "x"), some...), room, api.ErrPlanArg}, {append(some, files(seg1+".tmp", "", seg1+".tmp", "")...), room, api.ErrPlanArg},
		{append(some, api.File{Name: "o", Data: great}), 4194304, api.ErrPlanFull}, {append(some, api.File{Name: "o", Data: append(great, 0)}), 4194304, api.ErrPlanArg},
		{files("other", string(great)), len(great), api.OK}, {files("x.tmp", string(great), hint2, "x"), len(great) + 1, api.OK}, {files(seg1, string(great)+"x"), len(great) + 1, api.OK},
	} {
		p, errno := checkPlan(t, c.l, 64, c.capacity)
		if errno != c.want || errno != api.OK && (p.Steps != nil || p.Report.Files != nil || sayPlan(p) != sayPlan(api.Plan{})) {
			t.Errorf("Plan of %s for %d bytes = %s, %d, want %d", sayFiles(c.l), c.capacity, sayPlan(p), errno, c.want)
		}
		if _, deep := plan.Deep(c.l, c.capacity); (deep == api.ErrPlanArg) != (errno == api.ErrPlanArg) {
			t.Errorf("Plan of %s for %d bytes: %d, plan.Deep: %d", sayFiles(c.l), c.capacity, errno, deep)
		}
	}
}

func TestPlanWithJustEnoughRoom(t *testing.T) {
	for _, l := range [][]api.File{
		segments(laid(put(1, "a", "x"))), segments(laid(put(1, "a", "x"), put(2, "a", "y")), laid(sized(t, 3, "b", 200), put(4, "c", ""))), append(clean(1, put(1, "a", "x")), clean(2, gone(2, "a"))...),
		append(segments("junk", laid(put(1, "a", "x"), put(5, "a", ""))), files("other", "rest", "x.tmp", "y")...),
	} {
		p, errno := merge.Plan(l, 64, room)
		if errno != api.OK {
			t.Fatalf("Plan of %s: %d", sayFiles(l), errno)
		}
		if q, errno := checkPlan(t, l, 64, p.Peak); errno != api.OK || sayPlan(q) != sayPlan(p) {
			t.Errorf("Plan of %s for %d bytes = %s, %d", sayFiles(l), p.Peak, sayPlan(q), errno)
		}
		if p.Peak == sumOf(l) {
			continue
		}
		for _, capacity := range []int{p.Peak - 1, sumOf(l)} {
			if q, errno := checkPlan(t, l, 64, capacity); errno != api.ErrPlanFull || q.Steps != nil || q.Report.Files != nil || sayPlan(q) != sayPlan(api.Plan{}) {
				t.Errorf("Plan of %s for %d bytes = %s, %d", sayFiles(l), capacity, sayPlan(q), errno)
			}
		}
	}
}

// New segments are filled to the last byte; with one more another one is begun.
func TestPlanFillsSegments(t *testing.T) {
	for _, size := range []int{64, 65, 100, 2000} {
		x, y := sized(t, 1, "a", size-30), sized(t, 2, "b", 30)
		longer, last := sized(t, 2, "b", 31), put(3, "c", "")
		old := func(l ...api.Record) []api.File { return segments(laid(l[1:]...), laid(l[0])) }
		planned(t, old(x, y), size, slices.Concat(adds(3, x, y), removes(seg1, seg2)), clean(3, x, y))
		planned(t, old(x, y, last), size, slices.Concat(adds(3, x, y), adds(4, last), removes(seg1, seg2)), append(clean(3, x, y), clean(4, last)...))
		planned(t, old(x, longer), size, slices.Concat(adds(3, x), adds(4, longer), removes(seg1, seg2)), append(clean(3, x), clean(4, longer)...))
		planned(t, old(x, longer, last), size, slices.Concat(adds(3, x), adds(4, longer, last), removes(seg1, seg2)), append(clean(3, x), clean(4, longer, last)...))
		// a frame that is just as long, and one that is longer, each stand alone
		for _, long := range []int{size, size + 1, size + 20, min(2*size+30, 2050)} {
			z := sized(t, 2, "b", long)
			planned(t, old(z, last), size, slices.Concat(adds(3, z), adds(4, last), removes(seg1, seg2)), append(clean(3, z), clean(4, last)...))
			planned(t, old(put(1, "a", ""), z), size, slices.Concat(adds(3, put(1, "a", "")), adds(4, z), removes(seg1, seg2)), append(clean(3, put(1, "a", "")), clean(4, z)...))
			first := put(1, "a", "")
			planned(t, segments(laid(last, z, first)), size, slices.Concat(adds(2, first), adds(3, z), adds(4, last), removes(seg1)), slices.Concat(clean(2, first), clean(3, z), clean(4, last)))
		}
	}
	// the greatest size, and the longest frame
	long := put(1, strings.Repeat("\xa7", 64), strings.Repeat("\xa7", 2048))
	p := planned(t, segments(laid(put(2, "a", ""), long, gone(3, "b"))), 64, slices.Concat(adds(2, long), adds(3, put(2, "a", ""), gone(3, "b")), removes(seg1)), append(clean(2, long), clean(3, put(2, "a", ""), gone(3, "b"))...))
	if p.Report.Frames != 3 || p.Report.Top != 3 {
		t.Errorf("the report is %s", sayReport(p.Report))
	}
}

// As many new segments as old ones, each with the bytes of the other: nothing is done, whatever hint files and others there are.
func TestPlanOfWhatIsMergedAlready(t *testing.T) {
	x, y, z, d := put(1, "a", "x"), put(2, "b", strings.Repeat("y", 60)), put(3, "c", ""), gone(4, "d")
	untouched(t, clean(1, x), 64, reportOf(1, 1, seg1))
	untouched(t, segments(laid(x, z, d)), 64, reportOf(4, 3, seg1))
	untouched(t, segments(laid(x), laid(y), laid(z, d)), 64, reportOf(4, 4, seg1, seg2, seg3))
	merged := func(numbers ...int) []api.File {
		var l []api.File
		for i, records := range [][]api.Record{{x}, {y}, {z, d}} {
			l = append(l, files(fmt.Sprintf("seg-%08x.log", numbers[i]), laid(records...))...)
		}
		return l
	}
	last := "seg-ffffffff.log"
	untouched(t, merged(3, 9, 0xffffffff), 64, reportOf(4, 4, seg3, "seg-00000009.log", last))
	// the order in which files are handed in changes nothing
	l := merged(3, 9, 0xffffffff)
	slices.Reverse(l)
	if p, errno := checkPlan(t, l, 64, room); errno != api.OK || len(p.Steps) > 0 || sayReport(p.Report) != sayReport(reportOf(4, 4, seg3, "seg-00000009.log", last)) {
		t.Errorf("handed in the other way round: %s, %d", sayPlan(p), errno)
	}
	for _, hints := range []string{"", "x", rightFor(x), rightFor(z, d)} {
		untouched(t, append(merged(1, 2, 4), files(hint1, hints, hint2, hints, hint3, hints, "seg-00000005.hint", hints)...), 64, reportOf(4, 4, seg1, seg2, seg4))
	}
	// between them segments that are no old ones, which have nothing that counts, or another key, or a copy
	for _, no := range []string{"junk", foot, laid(x, z, d) + "junk", laid(gone(1, "b")) + foot, laid(put(1, "other", "")) + foot} {
		untouched(t, append(merged(1, 3, 4), files(seg2, no, "other", no, "x.tmp", no)...), 64, reportOf(4, 4, seg1, seg3, seg4))
	}
}

// The same records, but not the same segments.
func TestPlanOfWhatIsNotYetMerged(t *testing.T) {
	x, y, z := sized(t, 1, "a", 40), sized(t, 2, "b", 40), sized(t, 3, "c", 20)
	then := append(clean(4, x), clean(5, y, z)...)
	// in another order
	planned(t, segments(laid(y, z), laid(x)), 64, slices.Concat(adds(3, x), adds(4, y, z), removes(seg1, seg2)), append(clean(3, x), clean(4, y, z)...))
	planned(t, segments(laid(x), laid(z, y)), 64, slices.Concat(adds(3, x), adds(4, y, z), removes(seg1, seg2)), append(clean(3, x), clean(4, y, z)...))
	planned(t, files(seg2, laid(x), seg1, laid(y, z)), 64, slices.Concat(adds(3, x), adds(4, y, z), removes(seg1, seg2)), append(clean(3, x), clean(4, y, z)...))
	// cut elsewhere
	planned(t, segments(laid(x, y), laid(z)), 64, slices.Concat(adds(3, x), adds(4, y, z), removes(seg1, seg2)), append(clean(3, x), clean(4, y, z)...))
	planned(t, segments(laid(x, y, z)), 64, slices.Concat(adds(2, x), adds(3, y, z), removes(seg1)), append(clean(2, x), clean(3, y, z)...))
	planned(t, segments(laid(x), laid(y), laid(z)), 64, slices.Concat(adds(4, x), adds(5, y, z), removes(seg1, seg2, seg3)), then)
	// one more, without bytes, in front or behind; a copy
	planned(t, segments(laid(x), laid(y, z), ""), 64, slices.Concat(adds(4, x), adds(5, y, z), removes(seg1, seg2, seg3)), then)
	planned(t, segments("", laid(x), laid(y, z)), 64, slices.Concat(adds(4, x), adds(5, y, z), removes(seg1, seg2, seg3)), then)
	planned(t, segments(laid(x), laid(y, z), laid(y, z)), 64, slices.Concat(adds(4, x), adds(5, y, z), removes(seg1, seg2, seg3)), then)
	planned(t, segments(laid(x), laid(y, z, z)), 64, slices.Concat(adds(3, x), adds(4, y, z), removes(seg1, seg2)), append(clean(3, x), clean(4, y, z)...))
	// with another size
	untouched(t, segments(laid(x), laid(y, z)), 64, reportOf(3, 3, seg1, seg2))
	planned(t, segments(laid(x), laid(y, z)), 100, slices.Concat(adds(3, x, y, z), removes(seg1, seg2)), clean(3, x, y, z))
	untouched(t, segments(laid(x, y), laid(z)), 99, reportOf(3, 3, seg1, seg2))
	// as many, as long, but one has other bytes: what counts stands elsewhere
	planned(t, segments(laid(x), laid(y, z), laid(put(2, "b", strings.Repeat("w", len(y.Value))))+"junk"), 64, slices.Concat(adds(4, x, z), removes(seg1, seg2)), append(clean(4, x, z), segments("", "", laid(put(2, "b", strings.Repeat("w", len(y.Value))))+"junk")[2:]...))
}

// An old segment's hint file goes with it, whatever it says; others stay.
func TestPlanAndHintFiles(t *testing.T) {
	x, y := put(1, "a", "x"), put(2, "a", "y")
	for _, hints := range []string{"", "x", rightFor(x), rightFor(y), rightFor(x, y), laid(x), foot} {
		kept := files(hint2, hints, seg3, "junk", hint3, hints, "seg-00000009.hint", hints, hint1+".tmp", hints)
		planned(t, append(kept, files(seg1, laid(x), hint1, hints, seg4, laid(y))...), 64, slices.Concat(adds(5, y), removes(hint1, seg1, seg4)), append(clean(5, y), kept...))
		planned(t, append(kept, files(seg1, laid(x), seg4, laid(y), hint4, hints)...), 64, slices.Concat(adds(5, y), removes(seg1, hint4, seg4)), append(clean(5, y), kept...))
	}
}

// Numbers that are taken: by segments of any sort, by hint files without one, by what is written ahead of either; not by quarantine files, or by what only looks like it.
func TestPlanTakesFreshNumbers(t *testing.T) {
	x, y := put(1, "a", strings.Repeat("x", 60)), put(2, "b", "y")
	check := func(first, second int, others ...string) {
		t.Helper()
		l := files(append([]string{"seg-00000030.log", laid(y, x)}, others...)...)
		planned(t, l, 64, slices.Concat(adds(first, x), adds(second, y), removes("seg-00000030.log")), slices.Concat(l[1:], clean(first, x), clean(second, y)))
	}
	check(1, 2)
	check(2, 3, seg1, "junk")
	check(2, 3, hint1, "")
	check(2, 3, seg1+".tmp", "")
	check(2, 3, hint1+".tmp", "x")
	check(1, 3, seg2, foot)
	check(1, 3, hint2, "x")
	check(1, 3, seg2+".tmp", laid(x))
	check(1, 3, hint2+".tmp", "")
	check(3, 6, seg1, "junk", hint2, "", seg4+".tmp", "", "seg-00000005.hint.tmp", "")
	check(3, 4, seg1, "junk", hint1, "junk", seg2+".tmp", "", hint2+".tmp", "")
	check(1, 2, "bad-00000001.bin", "x", "bad-00000001.bin.tmp", "y", "bad-00000002.bin", laid(x))
	check(1, 2, "seg-00000001.log.tmp.tmp", "", "seg-1.log", "", "seg-00000001", "", "seg-00000001.logx", "", "SEG-00000001.LOG", "", ".tmp", "", "seg-00000000.log", laid(put(9, "z", "")))
	check(1, 2, "seg-ffffffff.log", "junk", "seg-0000000A.log", "")
	var nine []string
	for n := range 9 {
		nine = append(nine, fmt.Sprintf("seg-%08x.%s", n+1, []string{"log", "hint", "log.tmp", "hint.tmp"}[n%4]), "junk")
	}
	check(10, 11, nine...)
	// the old ones' own numbers are taken till they go, and so are those of the new ones
	planned(t, segments(laid(y), laid(x)), 64, slices.Concat(adds(3, x), adds(4, y), removes(seg1, seg2)), append(clean(3, x), clean(4, y)...))
	planned(t, files(seg2, laid(y), hint4, "", "seg-00000006.log", laid(x)), 64, slices.Concat(adds(1, x), adds(3, y), removes(seg2, "seg-00000006.log")), slices.Concat(clean(1, x), clean(3, y), files(hint4, "")))
}

// Old segments go by numbers, in whatever order they are handed in.
func TestPlanTakesOldSegmentsByNumbers(t *testing.T) {
	numbers := []string{"seg-00000002.log", "seg-00000009.log", "seg-0000000a.log", "seg-000000ff.log", "seg-00000100.log", "seg-7fffffff.log", "seg-80000000.log", "seg-ffffffff.log"}
	var l []api.File
	for i, name := range numbers {
		l = append(l, files(name, laid(put(uint64(i+1), "a", "")))...)
	}
	last := put(uint64(len(numbers)), "a", "")
	r := source()
	for range 20 {
		r.Shuffle(len(l), func(i, k int) { l[i], l[k] = l[k], l[i] })
		p := planned(t, l, 64, slices.Concat(adds(1, last), removes(numbers...)), clean(1, last))
		if want := reportOf(last.LSN, 1, numbers...); sayReport(p.Report) != sayReport(want) {
			t.Errorf("the report is %s, want %s", sayReport(p.Report), sayReport(want))
		}
	}
}

// Top is that of all segments, Frames tells what is kept, whether there are steps or not.
func TestPlansReport(t *testing.T) {
	check := func(l []api.File, want api.Report) {
		t.Helper()
		p, errno := checkPlan(t, l, 64, room)
		if errno != api.OK || sayReport(p.Report) != sayReport(want) {
			t.Errorf("the report of %s is %s, %d, want %s", sayFiles(l), sayReport(p.Report), errno, sayReport(want))
		}
	}
	x, y := put(1<<64-1, "a", "x"), put(2, "b", "y")
	check(segments(laid(x, y)), reportOf(1<<64-1, 2, seg1))
	check(segments(laid(y, x)), reportOf(1<<64-1, 2, seg1))
	check(segments(laid(y), laid(x)+"junk"), reportOf(1<<64-1, 1, seg1))
	check(segments("junk"+laid(x), laid(y)+foot), reportOf(1<<64-1, 0))
	check(segments(laid(y, y, y), "", "junk", laid(put(1, "b", ""))), reportOf(2, 1, seg1, seg2, seg4))
	check(append(segments(laid(y)), files("other", laid(x), hint1, rightFor(x))...), reportOf(2, 1, seg1))
	check(segments(laid(gone(5, "a"), y)+"junk", laid(gone(4, "a"))), reportOf(5, 0, seg2))
}
