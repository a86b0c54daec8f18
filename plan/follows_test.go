package plan_test

import (
	"bytes"
	"fmt"
	"slices"
	"strings"
	"testing"

	"salvor/api"
	"salvor/keydir"
	"salvor/names"
	"salvor/plan"
)

// fold is what counts of each key, of all records in segments.
func fold(l []api.File) []api.Record {
	var records []api.Record
	for _, r := range plan.View(l...) {
		records = append(records, r)
	}
	return keydir.Fold(records...)
}

func ofName(l []api.File, name string) ([]byte, bool) {
	i := slices.IndexFunc(l, named(name))
	if i < 0 {
		return nil, false
	}
	return l[i].Data, true
}

// kept tells whether files of the classes Other and Quarantine are as they were.
func kept(before, now []api.File) bool {
	for _, f := range before {
		if class, _ := names.Parse(f.Name); class == api.Other || class == api.Quarantine {
			if data, there := ofName(now, f.Name); !there || !bytes.Equal(data, f.Data) {
				return false
			}
		}
	}
	return true
}

// Behind any first so many steps what counts of each key is what it was.
func stepByStep(t *testing.T, l []api.File, p api.Plan) {
	t.Helper()
	want := fold(l)
	peak := sumOf(l)
	for n := range len(p.Steps) + 1 {
		now, errno := plan.Apply(l, p.Steps[:n]...)
		if got := fold(now); errno != api.OK || !slices.Equal(got, want) {
			t.Fatalf("of %s, behind %d steps of %s: %d, %v, want %v", sayFiles(l), n, saySteps(p.Steps), errno, got, want)
		}
		if !kept(l, now) {
			t.Fatalf("of %s, behind %d steps of %s: %s", sayFiles(l), n, saySteps(p.Steps), sayFiles(now))
		}
		peak = max(peak, sumOf(now))
	}
	if peak != p.Peak {
		t.Fatalf("of %s: %s has the peak %d", sayFiles(l), sayPlan(p), peak)
	}
}

// mended holds what is left behind all steps.
func mended(t *testing.T, l, now []api.File, p api.Plan, trusted []uint32) {
	t.Helper()
	say := func() string { return fmt.Sprintf("of %s: %s; then %s", sayFiles(l), sayPlan(p), sayFiles(now)) }
	for _, f := range now {
		class, number := names.Parse(f.Name)
		switch {
		case class == api.Temp:
			t.Fatalf("a temp file is left: %s", say())
		case class == api.Hints:
			if _, there := ofName(now, strings.TrimSuffix(f.Name, "hint")+"log"); !there {
				t.Fatalf("an orphan is left: %s", say())
			}
		case class == api.Segment && slices.Contains(trusted, number):
			if data, _ := ofName(l, f.Name); !bytes.Equal(data, f.Data) {
				t.Fatalf("a trusted segment has changed: %s", say())
			}
		case class == api.Segment:
			var records []api.Record
			frames := framesByWords(f.Data)
			length := 0
			for _, x := range frames {
				length += x.Len
				if x.Frame.Kind == api.Put || x.Frame.Kind == api.Delete {
					records = append(records, x.Frame.Record)
				}
			}
			data, there := ofName(now, strings.TrimSuffix(f.Name, "log")+"hint")
			if length != len(f.Data) || there != (len(records) == len(frames)) || there && string(data) != rightFor(records...) {
				t.Fatalf("%q is not mended: %s", f.Name, say())
			}
		}
	}
	for _, a := range p.Report.Files {
		if a.Class != api.Segment {
			continue
		}
		data, _ := ofName(l, a.Name)
		junk := ""
		for _, e := range a.Extents {
			if e.Junk {
				junk += string(data[e.At : e.At+e.Len])
			}
		}
		_, old := ofName(l, a.Bad)
		aside, there := ofName(now, a.Bad)
		if old || there != (junk != "") || string(aside) != junk {
			t.Fatalf("the junk of %q is not aside: %s", a.Name, say())
		}
	}
}

func TestWhatFollows(t *testing.T) {
	r := source()
	steps := 0
	for range 2000 {
		l := anyDirectory(r)
		trusted := anyTrusted(r)
		p, errno := plan.Deep(l, room, trusted...)
		if errno != api.OK {
			t.Fatalf("Deep of %s: %d", sayFiles(l), errno)
		}
		steps += len(p.Steps)
		stepByStep(t, l, p)
		now, _ := plan.Apply(l, p.Steps...)
		mended(t, l, now, p, trusted)
		if again, errno := plan.Deep(now, room, trusted...); errno != api.OK || len(again.Steps) > 0 || again.Peak != sumOf(now) || again.Report.Junk != 0 || again.Report.Frames != p.Report.Frames || again.Report.Top != p.Report.Top {
			t.Fatalf("of %s, once more: %s, %d", sayFiles(l), sayPlan(again), errno)
		}
		if same, errno := plan.Deep(l, p.Peak, trusted...); errno != api.OK || sayPlan(same) != sayPlan(p) {
			t.Fatalf("of %s, with just enough room: %s, %d", sayFiles(l), sayPlan(same), errno)
		}
		if none, errno := plan.Deep(l, p.Peak-1, trusted...); errno == api.OK || sayPlan(none) != sayPlan(api.Plan{}) {
			t.Fatalf("of %s, with a byte too little: %s, %d", sayFiles(l), sayPlan(none), errno)
		}
	}
	if steps < 10000 {
		t.Errorf("only %d steps", steps)
	}
}

// A plan that broke off anywhere is found again: a plan of what is left comes to what the whole would have come to, but for numbers of quarantine files.
func TestAPlanOfWhatBrokeOff(t *testing.T) {
	r := source()
	ours := func(l []api.File) string {
		return sayFiles(slices.DeleteFunc(slices.Clone(l), func(f api.File) bool {
			class, _ := names.Parse(f.Name)
			return class == api.Quarantine
		}))
	}
	for range 300 {
		l := anyDirectory(r)
		p, _ := plan.Deep(l, room)
		want, _ := plan.Apply(l, p.Steps...)
		for n := range p.Steps {
			broken, _ := plan.Apply(l, p.Steps[:n]...)
			q, errno := plan.Deep(broken, room)
			now, _ := plan.Apply(broken, q.Steps...)
			if errno != api.OK || ours(now) != ours(want) {
				t.Fatalf("of %s, broken off behind %d of %s: %s, want %s", sayFiles(l), n, saySteps(p.Steps), sayFiles(now), sayFiles(want))
			}
		}
	}
}

// The order in which files are handed in changes nothing.
func TestOrderChangesNothing(t *testing.T) {
	r := source()
	for range 500 {
		l := anyDirectory(r)
		trusted := anyTrusted(r)
		p, errno := plan.Deep(l, room, trusted...)
		now, _ := plan.Apply(l, p.Steps...)
		for range 3 {
			r.Shuffle(len(l), func(i, k int) { l[i], l[k] = l[k], l[i] })
			r.Shuffle(len(trusted), func(i, k int) { trusted[i], trusted[k] = trusted[k], trusted[i] })
			checkDeep(t, l, room, trusted, p, errno)
			checkApply(t, l, p.Steps, now, api.OK)
		}
		if t.Failed() {
			return
		}
	}
}
