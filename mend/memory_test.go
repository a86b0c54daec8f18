package mend_test

import (
	"bytes"
	"fmt"
	"math"
	"runtime"
	"slices"
	gosync "sync"
	"testing"

	"salvor/api"
	"salvor/mend"
	"salvor/vdisk"
)

// turnAll writes into a list, and into its spare room.
func turnAll(b []byte) {
	b = b[:cap(b)]
	for i := range b {
		b[i] ^= 0xff
	}
}

func fill[T any](l []T, x T) {
	for i := range l {
		l[i] = x
	}
}

// row is steps that lie in a longer list, each with bytes that lie in a longer one, with others ahead and behind.
type row struct {
	steps, around []api.Step
	bytes         [][]byte
}

func rowOf(steps ...api.Step) *row {
	x := &row{around: []api.Step{remove("a")}}
	for _, s := range steps {
		longer := slices.Concat([]byte("ahead"), s.Data, []byte("behind"))
		x.bytes = append(x.bytes, longer)
		s.Data = longer[5 : 5+len(s.Data)]
		x.around = append(x.around, s)
	}
	x.around = append(x.around, remove("b"), write("z", "z"), api.Step{Op: 9})
	x.steps = x.around[1 : 1+len(steps)]
	return x
}

func (x *row) say() string {
	s := saySteps(x.around)
	for _, longer := range x.bytes {
		s += shortly(longer)
	}
	return s
}

// turn writes into all that was handed in, and around it.
func (x *row) turn() {
	for _, longer := range x.bytes {
		turnAll(longer)
	}
	fill(x.around, api.Step{Op: 2, Name: "turned", Data: []byte("turned")})
}

func TestRunKeepsAndChangesNothingThatIsHandedIn(t *testing.T) {
	for _, steps := range [][]api.Step{
		nil, {write("d", "delta"), write("e", ""), write("f", "x")}, slices.Concat(ahead("a", "new"), []api.Step{truncate("a", 1), remove("b"), sync("c"), rename("c", "c")}),
		{write("d", "delta"), write("d", "delta")}, {write("d", "delta"), {Op: 7, Name: "a", Data: []byte("x")}}, {write("d", "123456789012345")},
	} {
		for n := range 5 {
			for _, f := range faults {
				x := rowOf(steps...)
				d, other := some(t), some(t)
				f.arm(d, n) // 0: none
				f.arm(other, n)
				before := x.say()
				mend.Run(d, x.steps...)
				if x.say() != before {
					t.Fatalf("Run has made of %s %s", before, x.say())
				}
				runByWords(other, steps...)
				x.turn()
				if got, want := sayDisk(d), sayDisk(other); got != want {
					t.Fatalf("when what was handed in is written over, the disk is %s, want %s", got, want)
				}
				d.Crash(math.MaxInt)
				d.Append("d", []byte("more"))
				for _, longer := range x.bytes {
					if bytes.Contains(longer, []byte("more")) {
						t.Fatalf("the disk writes into what was handed in")
					}
				}
			}
		}
	}
}

// What was told of a disk ahead of Run stays as it was.
func TestWhatWasToldAheadOfRunStays(t *testing.T) {
	d := some(t)
	told, lasting := d.Files(), d.Lasting()
	mend.Run(d, slices.Concat(ahead("a", "new"), []api.Step{truncate("b", 1), remove("c")})...)
	if !sameFiles(told, files(asItWas...)) || !sameFiles(lasting, files(asItWas...)) {
		t.Errorf("what was told has become %s", sayFiles(told))
	}
	for _, f := range told {
		turnAll(f.Data)
	}
	if !sameFiles(d.Files(), files("a", "new", "b", "b")) {
		t.Errorf("the disk has become %s", sayFiles(d.Files()))
	}
}

// spoilReport writes into all lists of a report, and into their spare room.
func spoilReport(r api.Report) {
	for _, a := range r.Files {
		fill(a.Extents[:cap(a.Extents)], api.Extent{Junk: true, At: -1, Len: math.MinInt})
	}
	fill(r.Files[:cap(r.Files)], api.Account{Name: "spoilt"})
}

func messy() []api.File {
	return files("x.tmp", "q", seg1, "x"+a+"y"+c, seg2, whole(put(9, "a", "z"))+b+"y", hint1, "z", "seg-00000009.hint", "o", "other", "rest", bad1, "old")
}

// A report, a directory and a disk know nothing of one another.
func TestWhatDeepTellsIsTheCallersOwn(t *testing.T) {
	l := messy()
	keys := keysOf(seenByWords(l))
	d := diskOf(t, room, l...)
	told := d.Files()
	dir, report, _ := mend.Deep(d)
	if !sameFiles(told, diskOf(t, room, l...).Files()) {
		t.Fatalf("what was told ahead of Deep has become %s", sayFiles(told))
	}
	disk, dirTold, reportTold := sayDisk(d), tell(dir, keys), sayReport(report)

	again, second, _ := mend.Deep(d)
	againTold, secondTold := tell(again, keys), sayReport(second)
	if tell(dir, keys) != dirTold || sayReport(report) != reportTold || againTold != dirTold {
		t.Errorf("a second Deep has changed what the first told, or tells something else: %s, was %s", againTold, dirTold)
	}
	spoilReport(report)
	if sayDisk(d) != disk || tell(dir, keys) != dirTold || sayReport(second) != secondTold {
		t.Errorf("a report that is written into has changed something else")
	}
	dir.Drop(1, 2)
	dir.Add(api.Seen{Key: "a", LSN: 99, Kind: api.Put, Place: api.Place{Segment: 1, Len: 1}})
	if sayDisk(d) != disk || tell(again, keys) != againTold {
		t.Errorf("a directory that is changed has changed something else")
	}
	third, thirdReport, _ := mend.Deep(d)
	if tell(third, keys) != againTold || sayReport(thirdReport) != secondTold {
		t.Errorf("a third Deep tells %s, %s", tell(third, keys), sayReport(thirdReport))
	}
	for _, name := range d.Names() {
		d.Remove(name)
	}
	d.Create(seg1)
	d.Append(seg1, []byte(laid(put(100, "a", "later"))))
	if tell(again, keys) != againTold || sayReport(second) != secondTold {
		t.Errorf("a disk that is written over has changed what was told")
	}
	last, _, _ := mend.Deep(d)
	checkDir(t, last, d.Files())
}

// Each list of a report is memory of its own, its spare room too.
func TestListsOfAReportShareNothing(t *testing.T) {
	r := source()
	for range 300 {
		d := diskOf(t, room, anyDirectory(r)...)
		_, report, _ := mend.Deep(d)
		tellAll := func(but int) string {
			s := ""
			for i, a := range report.Files {
				if i != but {
					s += fmt.Sprint(a.Extents[:cap(a.Extents)])
				}
			}
			return s
		}
		for i, a := range report.Files {
			before := tellAll(i)
			fill(a.Extents[:cap(a.Extents)], api.Extent{At: -7})
			if tellAll(i) != before {
				t.Fatalf("two lists of a report share memory")
			}
		}
	}
}

// A directory stays as it was told, whatever becomes of the disk's files.
func TestTheDirectoryDoesNotLookAtTheDisk(t *testing.T) {
	r := source()
	for range 300 {
		l := anyDirectory(r)
		d := diskOf(t, room, l...)
		dir, _, errno := mend.Deep(d)
		now := d.Files()
		if errno != api.OK {
			t.Fatalf("Deep of %s: %d", sayFiles(l), errno)
		}
		for _, name := range d.Names() {
			d.Truncate(name, 0)
			d.Append(name, []byte(a))
		}
		checkDir(t, dir, now)
	}
}

// Disks know nothing of one another.
func TestTwoDisks(t *testing.T) {
	r := source()
	for range 300 {
		l, m := anyDirectory(r), anyDirectory(r)
		one, two := diskOf(t, room, l...), diskOf(t, room, m...)
		before := sayDisk(two)
		first, _, _ := mend.Deep(one)
		if sayDisk(two) != before {
			t.Fatalf("a salvage has changed another disk")
		}
		after := sayDisk(one)
		checkDeep(t, two, diskOf(t, room, m...))
		mend.Run(two, write("new", "x"))
		if sayDisk(one) != after {
			t.Fatalf("a salvage has changed another disk")
		}
		checkDir(t, first, one.Files())
	}
}

// Nothing is kept from call to call: many can salvage at once, each its own disk.
func TestSalvagedAtOnce(t *testing.T) {
	r := source()
	var all [][]api.File
	var want []string
	salvage := func(l []api.File) string {
		d, _ := vdisk.New(room, l...)
		dir, report, errno := mend.Deep(d)
		count, runErrno := mend.Run(d, write("new", "x"), sync("new"), remove("none"))
		return fmt.Sprint(sayDisk(d), tell(dir, keysOf(seenByWords(l))), sayReport(report), errno, count, runErrno)
	}
	for range 60 {
		l := anyDirectory(r)
		all, want = append(all, l), append(want, salvage(l))
	}
	var group gosync.WaitGroup
	var wrong [8]int
	for i := range wrong {
		group.Go(func() {
			for k, l := range all {
				if salvage(l) != want[k] {
					wrong[i]++
				}
			}
		})
	}
	group.Wait()
	if wrong != [8]int{} {
		t.Errorf("wrong answers of each goroutine: %v", wrong)
	}
}

// No call leaves a goroutine behind.
func TestNoGoroutineIsLeft(t *testing.T) {
	before := runtime.NumGoroutine()
	r := source()
	for range 200 {
		d := diskOf(t, room, anyDirectory(r)...)
		pick(r, faults...).arm(d, 1+r.Intn(20))
		mend.Deep(d)
		mend.Run(d, write("new", "x"), remove("new"))
	}
	if after := runtime.NumGoroutine(); after > before {
		t.Errorf("%d goroutines, %d before", after, before)
	}
}
