package fast_test

import (
	"fmt"
	"math"
	"runtime"
	"slices"
	"sync"
	"testing"

	"salvor/api"
	"salvor/fast"
	"salvor/vdisk"
)

// turnAll writes into a list, and into its spare room.
func turnAll(b []byte) {
	b = b[:cap(b)]
	for i := range b {
		b[i] ^= 0xff
	}
}

func fill[T any](l []T, x T) {
	for i := range l {
		l[i] = x
	}
}

// row is files that lie in a longer list, each with bytes that lie in a longer one, with others ahead and behind.
type row struct {
	files, around []api.File
	bytes         [][]byte
}

func rowOf(l ...api.File) *row {
	x := &row{around: files("ahead", "x")}
	for _, f := range l {
		longer := slices.Concat([]byte("ahead"), f.Data, []byte("behind"))
		x.bytes = append(x.bytes, longer)
		f.Data = longer[5 : 5+len(f.Data)]
		x.around = append(x.around, f)
	}
	x.around = append(x.around, files("behind", "y", seg1, a, hint1, "z")...)
	x.files = x.around[1 : 1+len(l)]
	return x
}

func (x *row) say() string {
	s := sayFiles(x.around)
	for _, longer := range x.bytes {
		s += shortly(longer)
	}
	return s
}

// turn writes into all that was handed in, and around it.
func (x *row) turn() {
	for _, longer := range x.bytes {
		turnAll(longer)
	}
	fill(x.around, api.File{Name: seg2, Data: []byte(a)})
}

// spoilPlan writes into all lists of a plan, and into their spare room.
func spoilPlan(p api.Plan) {
	for _, s := range p.Steps {
		turnAll(s.Data)
	}
	fill(p.Steps[:cap(p.Steps)], api.Step{Op: api.StepRemove, Name: "spoilt"})
	spoilReport(p.Report)
}

func spoilReport(r api.Report) {
	for _, a := range r.Files {
		fill(a.Extents[:cap(a.Extents)], api.Extent{Junk: true, At: -1, Len: math.MinInt})
	}
	fill(r.Files[:cap(r.Files)], api.Account{Name: "spoilt"})
}

func TestPlanKeepsAndChangesNothingThatIsHandedIn(t *testing.T) {
	r := source()
	for i := range 1000 {
		l := anyDirectory(r)
		if i == 0 {
			l = messy()
		}
		capacity := pick(r, room, room, room, sumOf(l), -1)
		keys := allKeys(l)
		x := rowOf(l...)
		before := x.say()
		p, dir, errno := fast.Plan(x.files, capacity)
		if x.say() != before {
			t.Fatalf("Plan has made of %s %s", before, x.say())
		}
		if errno != api.OK {
			continue
		}
		planTold, dirTold := sayPlan(p), tell(dir, keys)
		x.turn()
		if sayPlan(p) != planTold || tell(dir, keys) != dirTold {
			t.Fatalf("when what was handed in is written over, it tells %s, %s, was %s, %s", sayPlan(p), tell(dir, keys), planTold, dirTold)
		}
		turnedOver := x.say()
		spoilPlan(p)
		dir.Drop(1, 2, 3)
		dir.Add(api.Seen{Key: "a", LSN: 99, Kind: api.Put, Place: api.Place{Segment: 1, Len: 1}})
		if x.say() != turnedOver {
			t.Fatalf("when what was told is written over, what was handed in has become %s, was %s", x.say(), turnedOver)
		}
		checkPlan(t, l, capacity)
	}
}

// What was told before stays as it was, whatever is told later and whatever becomes of that.
func TestWhatPlanTellsIsTheCallersOwn(t *testing.T) {
	r := source()
	for range 500 {
		l := anyDirectory(r)
		keys := allKeys(l)
		p, dir, _ := fast.Plan(l, room)
		planTold, dirTold := sayPlan(p), tell(dir, keys)
		q, other, _ := fast.Plan(l, room)
		spoilPlan(q)
		other.Drop(1, 2, 3, 4, 10)
		if sayPlan(p) != planTold || tell(dir, keys) != dirTold {
			t.Fatalf("what a second call told is written over, and the first tells %s, %s, told %s, %s", sayPlan(p), tell(dir, keys), planTold, dirTold)
		}
		q, other, _ = fast.Plan(l, room)
		if sayPlan(q) != planTold || tell(other, keys) != dirTold {
			t.Fatalf("a third call tells %s, %s, the first told %s, %s", sayPlan(q), tell(other, keys), planTold, dirTold)
		}
		spoilPlan(p)
		if tell(dir, keys) != dirTold {
			t.Fatalf("when the plan is written over, the directory tells %s, told %s", tell(dir, keys), dirTold)
		}
	}
}

// Each list of a plan is memory of its own, its spare room too.
func TestListsOfAPlanShareNothing(t *testing.T) {
	r := source()
	for range 300 {
		p, _, _ := fast.Plan(anyDirectory(r), room)
		tellAll := func(butStep, butFile int) string {
			s := ""
			for i, x := range p.Steps {
				if i != butStep {
					s += fmt.Sprintf("%q", x.Data[:cap(x.Data)])
				}
			}
			for i, a := range p.Report.Files {
				if i != butFile {
					s += fmt.Sprint(a.Extents[:cap(a.Extents)])
				}
			}
			return s
		}
		for i, x := range p.Steps {
			before := tellAll(i, -1)
			turnAll(x.Data)
			if tellAll(i, -1) != before {
				t.Fatalf("two lists of a plan share memory")
			}
		}
		for i, a := range p.Report.Files {
			before := tellAll(-1, i)
			fill(a.Extents[:cap(a.Extents)], api.Extent{At: -7})
			if tellAll(-1, i) != before {
				t.Fatalf("two lists of a plan share memory")
			}
		}
	}
}

// A report, a directory and a disk know nothing of one another.
func TestWhatSalvageTellsIsTheCallersOwn(t *testing.T) {
	r := source()
	for i := range 300 {
		l := anyDirectory(r)
		if i == 0 {
			l = messy()
		}
		keys := allKeys(l)
		d := diskOf(t, room, l...)
		told := d.Files()
		dir, report, _ := fast.Salvage(d)
		if !sameFiles(told, byNames(l)) {
			t.Fatalf("what was told ahead of Salvage has become %s", sayFiles(told))
		}
		disk, dirTold, reportTold := sayDisk(d), tell(dir, keys), sayReport(report)
		again, second, _ := fast.Salvage(d)
		againTold := tell(again, keys)
		if tell(dir, keys) != dirTold || sayReport(report) != reportTold {
			t.Fatalf("a second Salvage has changed what the first told")
		}
		spoilReport(second)
		again.Drop(1, 2)
		again.Add(api.Seen{Key: "a", LSN: 99, Kind: api.Put, Place: api.Place{Segment: 1, Len: 1}})
		if sayDisk(d) != disk || tell(dir, keys) != dirTold || sayReport(report) != reportTold {
			t.Fatalf("what was told is written over, and something else has changed")
		}
		if third, _, _ := fast.Salvage(d); tell(third, keys) != againTold {
			t.Fatalf("a third Salvage tells %s, the second told %s", tell(third, keys), againTold)
		}
		for _, name := range d.Names() {
			d.Truncate(name, 0)
			d.Append(name, []byte(a))
		}
		if tell(dir, keys) != dirTold || sayReport(report) != reportTold {
			t.Fatalf("a disk that is written over has changed what was told")
		}
	}
}

// Disks know nothing of one another.
func TestTwoDisks(t *testing.T) {
	r := source()
	for range 300 {
		l, m := anyDirectory(r), anyDirectory(r)
		one, two := diskOf(t, room, l...), diskOf(t, room, m...)
		before := sayDisk(two)
		first, _, _ := fast.Salvage(one)
		if sayDisk(two) != before {
			t.Fatalf("a salvage has changed another disk")
		}
		after, told := sayDisk(one), tell(first, allKeys(l))
		checkSalvage(t, two, diskOf(t, room, m...))
		if sayDisk(one) != after || tell(first, allKeys(l)) != told {
			t.Fatalf("a salvage has changed another disk, or what was told of it")
		}
	}
}

// Nothing is kept from call to call: many can salvage at once, each its own disk, or plan for the same files.
func TestSalvagedAtOnce(t *testing.T) {
	r := source()
	var all [][]api.File
	var want []string
	salvage := func(l []api.File) string {
		keys := allKeys(l)
		p, planned, planErrno := fast.Plan(l, room)
		d, _ := vdisk.New(room, l...)
		dir, report, errno := fast.Salvage(d)
		return fmt.Sprint(sayPlan(p), tell(planned, keys), planErrno, sayDisk(d), tell(dir, keys), sayReport(report), errno)
	}
	for range 60 {
		l := anyDirectory(r)
		all, want = append(all, l), append(want, salvage(l))
	}
	var group sync.WaitGroup
	var wrong [8]int
	for i := range wrong {
		group.Go(func() {
			for k, l := range all {
				if salvage(l) != want[k] {
					wrong[i]++
				}
			}
		})
	}
	group.Wait()
	if wrong != [8]int{} {
		t.Errorf("wrong answers of each goroutine: %v", wrong)
	}
}

// No call leaves a goroutine behind.
func TestNoGoroutineIsLeft(t *testing.T) {
	before := runtime.NumGoroutine()
	r := source()
	for range 200 {
		l := anyDirectory(r)
		fast.Plan(l, room)
		d := diskOf(t, room, l...)
		pick(r, faults...).arm(d, 1+r.Intn(20))
		fast.Salvage(d)
	}
	if after := runtime.NumGoroutine(); after > before {
		t.Errorf("%d goroutines, %d before", after, before)
	}
}
