package merge_test

import (
	"fmt"
	"math"
	"runtime"
	"slices"
	"sync"
	"testing"

	"salvor/api"
	"salvor/merge"
	"salvor/vdisk"
)

// turnAll writes into a list, and into its spare room.
func turnAll(b []byte) {
	b = b[:cap(b)]
	for i := range b {
		b[i] ^= 0xff
	}
}

func fill[T any](l []T, x T) {
	for i := range l {
		l[i] = x
	}
}

// row is files that lie in a longer list, each with bytes that lie in a longer one, with others ahead and behind.
type row struct {
	files, around []api.File
	bytes         [][]byte
}

func rowOf(l ...api.File) *row {
	x := &row{around: files("ahead", "x")}
	for _, f := range l {
		longer := slices.Concat([]byte(laid(put(1, "ahead", ""))), f.Data, []byte(laid(put(200, "behind", ""))))
		x.bytes = append(x.bytes, longer)
		at := len(laid(put(1, "ahead", "")))
		f.Data = longer[at : at+len(f.Data)]
		x.around = append(x.around, f)
	}
	x.around = append(x.around, files("behind", "y", seg1, laid(put(100, "z", "")), hint1, "z")...)
	x.files = x.around[1 : 1+len(l)]
	return x
}

func (x *row) say() string {
	s := sayFiles(x.around)
	for _, longer := range x.bytes {
		s += shortly(longer)
	}
	return s
}

// turn writes into all that was handed in, and around it.
func (x *row) turn() {
	for _, longer := range x.bytes {
		turnAll(longer)
	}
	fill(x.around, api.File{Name: seg2, Data: []byte(laid(put(300, "turned", "")))})
}

// spoilPlan writes into all lists of a plan, and into their spare room.
func spoilPlan(p api.Plan) {
	for _, s := range p.Steps {
		turnAll(s.Data)
	}
	fill(p.Steps[:cap(p.Steps)], api.Step{Op: api.StepRemove, Name: "spoilt"})
	for _, a := range p.Report.Files {
		fill(a.Extents[:cap(a.Extents)], api.Extent{Junk: true, At: -1, Len: math.MinInt})
	}
	fill(p.Report.Files[:cap(p.Report.Files)], api.Account{Name: "spoilt"})
}

func spoilRecords(l []api.Record) { fill(l[:cap(l)], put(9, "spoilt", "")) }

func TestNothingHandedInIsChangedOrKept(t *testing.T) {
	r := source()
	for i := range 1000 {
		l := anyDirectory(r)
		if i == 0 {
			l = messy()
		}
		size, capacity := pick(r, sizes...), pick(r, room, room, room, sumOf(l), -1)
		x := rowOf(l...)
		before := x.say()
		kept := merge.Keep(x.files...)
		p, errno := merge.Plan(x.files, size, capacity)
		if x.say() != before {
			t.Fatalf("of %s has become %s", before, x.say())
		}
		told := fmt.Sprint(kept, sayPlan(p))
		if want, wantErrno := planByWords(l, size, capacity); told != fmt.Sprint(keepByWords(l), sayPlan(want)) || errno != wantErrno {
			t.Fatalf("of %s it tells %s, %d", before, told, errno)
		}
		x.turn()
		if again := fmt.Sprint(kept, sayPlan(p)); again != told {
			t.Fatalf("when what was handed in is written over, it tells %s, told %s", again, told)
		}
		turned := x.say()
		spoilRecords(kept)
		spoilPlan(p)
		if x.say() != turned {
			t.Fatalf("when what was told is written over, what was handed in has become %s, was %s", x.say(), turned)
		}
	}
}

// Files in a list may share their bytes: nothing is written there, and no list that is told shares them.
func TestFilesThatShareTheirBytes(t *testing.T) {
	data := []byte(laid(put(1, "a", "x"), put(2, "b", "y"), gone(3, "a")))
	before := string(data)
	l := []api.File{{Name: seg1, Data: data}, {Name: seg2, Data: data}, {Name: seg3, Data: data[:len(data)-1]}, {Name: hint1, Data: data}}
	p, errno := checkPlan(t, l, 64, room)
	kept := merge.Keep(l...)
	for _, s := range p.Steps {
		turnAll(s.Data)
	}
	if string(data) != before || errno != api.OK || len(p.Steps) == 0 {
		t.Errorf("%d, and the bytes have become %q", errno, data)
	}
	turnAll(data)
	if want := []api.Record{put(2, "b", "y"), gone(3, "a")}; !slices.Equal(kept, want) {
		t.Errorf("it has become %v, want %v", kept, want)
	}
}

// What was told before stays as it was, whatever is told later and whatever becomes of that.
func TestWhatIsToldIsTheCallersOwn(t *testing.T) {
	r := source()
	for range 500 {
		l := anyDirectory(r)
		size := pick(r, sizes...)
		kept := merge.Keep(l...)
		p, _ := merge.Plan(l, size, room)
		told := fmt.Sprint(kept, sayPlan(p))
		other := merge.Keep(l...)
		q, _ := merge.Plan(l, size, room)
		spoilRecords(other)
		spoilPlan(q)
		if again := fmt.Sprint(kept, sayPlan(p)); again != told {
			t.Fatalf("what a second call told is written over, and the first tells %s, told %s", again, told)
		}
		other = merge.Keep(l...)
		q, _ = merge.Plan(l, size, room)
		if again := fmt.Sprint(other, sayPlan(q)); again != told {
			t.Fatalf("a third call tells %s, the first told %s", again, told)
		}
	}
}

// Each list of a plan is memory of its own, its spare room too.
func TestListsOfAPlanShareNothing(t *testing.T) {
	r := source()
	for range 300 {
		p, _ := merge.Plan(anyDirectory(r), pick(r, 64, 100), room)
		tellAll := func(but int) string {
			s := sayReport(p.Report)
			for i, x := range p.Steps {
				if i != but {
					s += fmt.Sprintf("%q", x.Data[:cap(x.Data)])
				}
			}
			return s
		}
		for i, x := range p.Steps {
			before := tellAll(i)
			turnAll(x.Data)
			if tellAll(i) != before {
				t.Fatalf("two lists of a plan share memory")
			}
		}
	}
}

// A step has in its bytes' spare room nothing of what was handed in.
func TestSpareRoomIsNew(t *testing.T) {
	l := segments(laid(put(1, "a", "x"), put(3, "b", "secret")), laid(put(4, "b", ""), put(5, "c", "")))
	p, _ := merge.Plan(l, 1000, room)
	for _, s := range p.Steps {
		if spare := s.Data[len(s.Data):cap(s.Data)]; slices.ContainsFunc(spare, func(c byte) bool { return c != 0 }) {
			t.Errorf("behind the bytes of %q stands %q", s.Name, spare)
		}
	}
}

// What a disk told ahead of Run stays as it was, and a plan that was told too; and the disk does not hang on them.
func TestRunKeepsNothing(t *testing.T) {
	r := source()
	for range 300 {
		l := anyDirectory(r)
		d := diskOf(t, room, l...)
		told := d.Files()
		merge.Run(d, 64)
		if !sameFiles(told, byNames(l)) {
			t.Fatalf("what was told ahead of Run has become %s", sayFiles(told))
		}
		before := sayDisk(d)
		for _, f := range append(told, d.Files()...) {
			turnAll(f.Data)
		}
		p, _ := merge.Plan(d.Files(), 64, room)
		spoilPlan(p)
		if sayDisk(d) != before {
			t.Fatalf("what was told is written over, and the disk has become %s, was %s", sayDisk(d), before)
		}
	}
}

// Disks know nothing of one another.
func TestTwoDisks(t *testing.T) {
	r := source()
	for range 300 {
		l, m := anyDirectory(r), anyDirectory(r)
		one, two := diskOf(t, room, l...), diskOf(t, room, m...)
		before := sayDisk(two)
		merge.Run(one, 64)
		if sayDisk(two) != before {
			t.Fatalf("a merge has changed another disk")
		}
		after := sayDisk(one)
		checkRun(t, two, diskOf(t, room, m...), 64)
		if sayDisk(one) != after {
			t.Fatalf("a merge has changed another disk")
		}
	}
}

// Nothing is kept from call to call: many can merge at once, each its own disk, or plan for the same files.
func TestMergedAtOnce(t *testing.T) {
	r := source()
	var all [][]api.File
	var want []string
	ask := func(l []api.File) string {
		p, planErrno := merge.Plan(l, 64, room)
		d, _ := vdisk.New(room, l...)
		errno := merge.Run(d, 64)
		return fmt.Sprint(merge.Keep(l...), sayPlan(p), planErrno, sayDisk(d), errno)
	}
	for range 60 {
		l := anyDirectory(r)
		all, want = append(all, l), append(want, ask(l))
	}
	var group sync.WaitGroup
	var wrong [8]int
	for i := range wrong {
		group.Go(func() {
			for k, l := range all {
				if ask(l) != want[k] {
					wrong[i]++
				}
			}
		})
	}
	group.Wait()
	if wrong != [8]int{} {
		t.Errorf("wrong answers of each goroutine: %v", wrong)
	}
}

// No call leaves a goroutine behind.
func TestNoGoroutineIsLeft(t *testing.T) {
	before := runtime.NumGoroutine()
	r := source()
	for range 200 {
		l := anyDirectory(r)
		merge.Keep(l...)
		merge.Plan(l, 64, room)
		d := diskOf(t, room, l...)
		pick(r, faults...).arm(d, 1+r.Intn(20))
		merge.Run(d, 64)
	}
	if after := runtime.NumGoroutine(); after > before {
		t.Errorf("%d goroutines, %d before", after, before)
	}
}
