package plan_test

import (
	"bytes"
	"fmt"
	"math"
	"runtime"
	"slices"
	gosync "sync"
	"testing"

	"salvor/api"
	"salvor/plan"
)

// turnAll writes into a list, and into its spare room.
func turnAll(b []byte) {
	b = b[:cap(b)]
	for i := range b {
		b[i] ^= 0xff
	}
}

// scene is what calls are asked of; each of its lists lies in a longer one, with others ahead and behind.
type scene struct {
	files    []api.File
	steps    []api.Step
	trusted  []uint32
	capacity int
	bytes    [][]byte // the longer lists of all bytes
	around   around
}

type around struct {
	files   []api.File
	steps   []api.Step
	trusted []uint32
}

// within is a list of bytes that lies in a longer one, which it tells too.
func within(b []byte) (part, longer []byte) {
	longer = slices.Concat([]byte(a), b, []byte(a+"junk"))
	return longer[len(a) : len(a)+len(b)], longer
}

func sceneOf(l []api.File, steps []api.Step, trusted []uint32, capacity int) *scene {
	s := &scene{capacity: capacity}
	s.around.files = files("ahead", "1")
	for _, f := range l {
		part, longer := within(f.Data)
		s.bytes = append(s.bytes, longer)
		s.around.files = append(s.around.files, api.File{Name: f.Name, Data: part})
	}
	s.around.files = append(s.around.files, files("x.tmp", "2", seg3, a+"x", "behind", "3")...)
	s.files = s.around.files[1 : 1+len(l)]
	s.around.steps = []api.Step{remove("ahead")}
	for _, x := range steps {
		part, longer := within(x.Data)
		s.bytes = append(s.bytes, longer)
		x.Data = part
		s.around.steps = append(s.around.steps, x)
	}
	s.around.steps = append(s.around.steps, remove("behind"), write("behind", "3"), rename("x.tmp", "y"))
	s.steps = s.around.steps[1 : 1+len(steps)]
	s.around.trusted = slices.Concat([]uint32{1, 2}, trusted, []uint32{2, 1, 3})
	s.trusted = s.around.trusted[2 : 2+len(trusted)]
	return s
}

// say is all that was handed in, with what lies around it.
func (s *scene) say() string {
	text := sayFiles(s.around.files) + saySteps(s.around.steps) + fmt.Sprint(s.around.trusted)
	for _, longer := range s.bytes {
		text += shortly(longer)
	}
	return text
}

// turn writes into all that was handed in, and around it.
func (s *scene) turn() {
	for _, longer := range s.bytes {
		turnAll(longer)
	}
	for i := range s.around.files {
		s.around.files[i] = api.File{Name: "turned", Data: []byte("turned")}
	}
	for i := range s.around.steps {
		s.around.steps[i] = remove("turned")
	}
	for i := range s.around.trusted {
		s.around.trusted[i] = 77
	}
}

// answers are what all calls tell of a scene.
type answers struct {
	plan        api.Plan
	files       []api.File
	errno, then api.Errno
	peak        int
	view        []told
}

func (s *scene) ask() answers {
	var x answers
	x.plan, x.errno = plan.Deep(s.files, s.capacity, s.trusted...)
	x.files, x.then = plan.Apply(s.files, s.steps...)
	x.peak = plan.Peak(s.files, s.steps...)
	x.view = viewed(s.files)
	return x
}

func (s *scene) askByWords() answers {
	var x answers
	x.plan, x.errno = deepByWords(s.files, s.capacity, s.trusted...)
	x.files, x.then = applyByWords(s.files, s.steps...)
	x.peak = peakByWords(s.files, s.steps...)
	x.view = viewByWords(s.files)
	return x
}

func (x answers) say() string {
	return fmt.Sprint(sayPlan(x.plan), x.errno, sayFiles(x.files), x.then, x.peak, x.view)
}

// lists are all lists of the answers, each with its spare room: as functions that tell what is in it and that write into it.
func (x answers) lists() (tell []func() string, spoil []func()) {
	ofBytes := func(b []byte) {
		tell = append(tell, func() string { return shortly(b[:cap(b)]) })
		spoil = append(spoil, func() { turnAll(b) })
	}
	for _, s := range x.plan.Steps {
		ofBytes(s.Data)
	}
	for _, f := range x.files {
		ofBytes(f.Data)
	}
	for _, f := range x.plan.Report.Files {
		l := f.Extents[:cap(f.Extents)]
		tell = append(tell, func() string { return fmt.Sprint(l) })
		spoil = append(spoil, func() { fill(l, api.Extent{Junk: true, At: -1, Len: math.MinInt}) })
	}
	steps := x.plan.Steps[:cap(x.plan.Steps)]
	tell = append(tell, func() string { return saySteps(steps) })
	spoil = append(spoil, func() { fill(steps, api.Step{Op: 9, Name: "spoilt"}) })
	accounts := x.plan.Report.Files[:cap(x.plan.Report.Files)]
	tell = append(tell, func() string { return sayReport(api.Report{Files: accounts}) })
	spoil = append(spoil, func() { fill(accounts, api.Account{Name: "spoilt"}) })
	all := x.files[:cap(x.files)]
	tell = append(tell, func() string { return sayFiles(all) })
	spoil = append(spoil, func() { fill(all, api.File{Name: "spoilt"}) })
	return tell, spoil
}

func fill[T any](l []T, x T) {
	for i := range l {
		l[i] = x
	}
}

func (x answers) spoil() {
	_, spoil := x.lists()
	for _, one := range spoil {
		one()
	}
}

// scenes are such that each call gives each of its answers.
func scenes() []*scene {
	mixed := files("x.tmp", "q", seg1, "x"+a, seg2, b+"y", hint1, "z", "seg-00000009.hint", "o", "other", "rest", bad1, "old")
	steps := []api.Step{write("new", "data"), write("none", ""), sync("new"), truncate(seg1, 2), truncate("other", 4), rename("new", "other"), remove(bad1), rename("other", "other")}
	all := []*scene{
		sceneOf(mixed, steps, []uint32{9, 2}, room), sceneOf(mixed, steps, nil, room), sceneOf(mixed, append(steps, remove("new")), []uint32{1, 1}, sumOf(mixed)),
		sceneOf(mixed, nil, nil, 1), sceneOf(nil, nil, nil, 0), sceneOf(append(mixed, mixed...), steps, nil, room), sceneOf(files(seg1, "", seg2, ""), nil, nil, room),
		sceneOf(files(seg1, a, seg2, a, seg3, a), []api.Step{sync(seg1)}, []uint32{3}, room),
	}
	r := source()
	for range 150 {
		l := anyDirectory(r)
		var steps []api.Step
		for now := l; len(steps) < 6; {
			s := anyStep(r)
			if len(now) > 0 {
				s.Name = pick(r, s.Name, pick(r, now...).Name)
			}
			next, done := stepByWords(now, s)
			if done {
				now, steps = next, append(steps, s)
			} else if r.Intn(20) == 0 {
				steps = append(steps, s)
			}
		}
		all = append(all, sceneOf(l, steps, anyTrusted(r), pick(r, room, sumOf(l), sumOf(l)+50)))
	}
	return all
}

func TestNothingHandedInIsChanged(t *testing.T) {
	for _, s := range scenes() {
		before := s.say()
		got := s.ask()
		if want := s.askByWords(); got.say() != want.say() {
			t.Fatalf("of %s:\n  %s, want\n  %s", before, got.say(), want.say())
		}
		if s.say() != before {
			t.Fatalf("of %s came %s", before, s.say())
		}
		got.spoil()
		if s.say() != before {
			t.Fatalf("an answer shares memory with %s", before)
		}
	}
}

// What was told stays as it is, whatever becomes of what it came of.
func TestNothingHandedInIsKept(t *testing.T) {
	for _, s := range scenes() {
		got := s.ask()
		want := s.askByWords().say()
		before := s.say()
		s.turn()
		if got.say() != want {
			t.Fatalf("what was told of %s has changed with it: %s, want %s", before, got.say(), want)
		}
		if got, want := s.ask().say(), s.askByWords().say(); got != want {
			t.Fatalf("of %s, which was %s: %s, want %s", s.say(), before, got, want)
		}
	}
}

func TestTwoAnswersShareNothing(t *testing.T) {
	for _, s := range scenes() {
		one, other := s.ask(), s.ask()
		want := s.askByWords().say()
		one.spoil()
		if other.say() != want {
			t.Fatalf("two answers of %s share memory", s.say())
		}
		if got := s.ask().say(); got != want {
			t.Fatalf("of %s, once an answer was written into: %s, want %s", s.say(), got, want)
		}
	}
}

// Each list of an answer is memory of its own, its spare room too. (The lists that others lie in are written into last: what they held is gone then.)
func TestListsOfOneAnswerShareNothing(t *testing.T) {
	for _, s := range scenes() {
		x := s.ask()
		tell, spoil := x.lists()
		inner := len(tell) - 3
		for i := range tell {
			var before []string
			for _, one := range tell {
				before = append(before, one())
			}
			spoil[i]()
			for k, one := range tell {
				if k != i && !(i < inner && k >= inner) && one() != before[k] { // what lies within a list is told with it
					t.Fatalf("of %s: the lists %d and %d of %d share memory", s.say(), i, k, len(tell))
				}
			}
		}
	}
}

// What a plan's steps write is not shared with what Apply makes of them.
func TestFilesShareNothingWithSteps(t *testing.T) {
	l := files(seg1, "x"+a, seg2, b+"yz", "other", "rest")
	p, _ := plan.Deep(l, room)
	before := saySteps(p.Steps)
	now, _ := plan.Apply(l, p.Steps...)
	want := sayFiles(now)
	for _, f := range now {
		turnAll(f.Data)
	}
	if saySteps(p.Steps) != before || sayFiles(l) != sayFiles(files(seg1, "x"+a, seg2, b+"yz", "other", "rest")) {
		t.Errorf("files that were told share memory with the steps, or with those that were handed in")
	}
	now, _ = plan.Apply(l, p.Steps...)
	for _, s := range p.Steps {
		turnAll(s.Data)
	}
	if sayFiles(now) != want {
		t.Errorf("files that were told share memory with the steps")
	}
}

// A cut-off file does not show its caller what stood behind.
func TestSpareRoomIsNew(t *testing.T) {
	l := files("a", "secret and more", "b", "abcdefghijklmnopqrstuvwxyz")
	now, _ := plan.Apply(l, truncate("a", 1), truncate("b", 0), write("c", "cc"))
	for _, f := range now {
		if spare := f.Data[len(f.Data):cap(f.Data)]; bytes.ContainsAny(spare, "secrtandmoxyz") {
			t.Errorf("behind %q stands %q", f.Name, spare)
		}
	}
}

// Nothing is kept from call to call: many can ask at once, of the same files.
func TestAskedAtOnce(t *testing.T) {
	all := scenes()[:40]
	var want []string
	for _, s := range all {
		want = append(want, s.askByWords().say())
	}
	var group gosync.WaitGroup
	var wrong [8]int
	for i := range wrong {
		group.Go(func() {
			for k, s := range all {
				if s.ask().say() != want[k] {
					wrong[i]++
				}
			}
		})
	}
	group.Wait()
	if wrong != [8]int{} {
		t.Errorf("wrong answers of each goroutine: %v", wrong)
	}
}

// No call leaves a goroutine behind.
func TestNoGoroutineIsLeft(t *testing.T) {
	before := runtime.NumGoroutine()
	for _, s := range scenes() {
		s.ask()
		for range plan.View(s.files...) {
			break
		}
	}
	if after := runtime.NumGoroutine(); after > before {
		t.Errorf("%d goroutines, %d before", after, before)
	}
}
