package keydir_test

import (
	"fmt"
	"math/rand"
	"slices"
	"testing"

	"salvor/api"
	"salvor/keydir"
)

// call is one that is asked of one of several directories.
type call struct {
	what     string
	of       int
	seen     []api.Seen
	place    api.Place
	body     string
	segments []uint32
	others   []int // -1: nil
}

func (c call) String() string {
	switch c.what {
	case "Add":
		return fmt.Sprintf("%d.Add(%+v)", c.of, c.seen)
	case "Settle":
		return fmt.Sprintf("%d.Settle(%v, %q)", c.of, c.place, c.body)
	case "Drop":
		return fmt.Sprintf("%d.Drop(%v)", c.of, c.segments)
	}
	return fmt.Sprintf("%d.Join(%v)", c.of, c.others)
}

// world is some directories, and a paper for each.
type world struct {
	dirs   []*keydir.Dir
	papers []*paper
}

func newWorld(count int) *world {
	w := &world{}
	for range count {
		w.dirs = append(w.dirs, keydir.New())
		w.papers = append(w.papers, &paper{})
	}
	return w
}

// numbered are those of some numbers.
func numbered[T any](l []*T, numbers []int) []*T {
	var some []*T
	for _, n := range numbers {
		if n < 0 {
			some = append(some, nil)
		} else {
			some = append(some, l[n])
		}
	}
	return some
}

func (w *world) ask(c call) (got, want api.Errno) {
	d, p := w.dirs[c.of], w.papers[c.of]
	switch c.what {
	case "Add":
		return d.Add(c.seen...), p.Add(c.seen...)
	case "Settle":
		return d.Settle(c.place, c.body), p.Settle(c.place, c.body)
	case "Drop":
		d.Drop(c.segments...)
		p.Drop(c.segments...)
	case "Join":
		d.Join(numbered(w.dirs, c.others)...)
		p.Join(numbered(w.papers, c.others)...)
	}
	return api.OK, api.OK
}

// check asks a call, and holds what all directories tell then against their papers.
func (w *world) check(t *testing.T, c call, run []call, keys ...string) {
	t.Helper()
	got, want := w.ask(c)
	if got != want {
		t.Errorf("%v = %d, want %d", c, got, want)
	}
	for i := range w.dirs {
		checkAlike(t, w.dirs[i], w.papers[i], keys...)
	}
	if t.Failed() {
		t.Fatalf("in the run %v", run)
	}
}

// anyCall is one that is often of something that the directory knows, or wants.
func (w *world) anyCall(r *rand.Rand) call {
	c := call{what: pick(r, "Add", "Add", "Add", "Settle", "Settle", "Settle", "Drop", "Join"), of: r.Intn(len(w.dirs))}
	p := w.papers[c.of]
	switch c.what {
	case "Add":
		c.seen = someSeen(r, r.Intn(6))
		if len(c.seen) > 0 && r.Intn(10) == 0 {
			c.seen[r.Intn(len(c.seen))].Place.Len = 0
		}
	case "Settle":
		c.place, c.body = anyPlace(r), pick(r, "", body(anyRecord(r)))
		if wanted := p.Rivals(); len(wanted) > 0 && r.Intn(8) > 0 {
			c.place = pick(r, wanted...)
		}
		there := slices.DeleteFunc(p.known(), func(s api.Seen) bool { return s.Known || s.Place != c.place })
		if len(there) > 0 && r.Intn(4) > 0 {
			s := pick(r, there...)
			c.body = body(api.Record{LSN: s.LSN, Kind: s.Kind, Key: s.Key})
			if s.Kind == api.Put {
				c.body += pick(r, someValues...)
			}
		}
	case "Drop":
		for range r.Intn(3) {
			c.segments = append(c.segments, uint32(r.Intn(5)))
		}
	case "Join":
		for range r.Intn(4) {
			c.others = append(c.others, r.Intn(len(w.dirs)+1)-1)
		}
	}
	return c
}

func TestAnyRun(t *testing.T) {
	r := source()
	answers := map[string]int{}
	for range 300 {
		w := newWorld(3)
		var run []call
		for range 25 {
			c := w.anyCall(r)
			run = append(run, c)
			w.check(t, c, run, append(someKeys, "none")...)
			for _, key := range someKeys {
				s, errno := w.dirs[c.of].Last(key)
				answers[fmt.Sprint(errno, s.Known, s.Kind)]++
			}
		}
	}
	// each kind of answer: nothing, open, a Put and a Delete, Known and not
	if len(answers) != 6 || slices.Min([]int{answers["salvor: error 81 false 0"], answers["salvor: error 82 false 0"]}) < 1000 {
		t.Errorf("how often each was the answer: %v", answers)
	}
}

// shortCalls are of two directories; any three are asked one behind the other.
var shortCalls = []call{
	{what: "Add", seen: []api.Seen{bare(put(5, "a", ""), at(1, 0))}},
	{what: "Add", seen: []api.Seen{bare(put(5, "a", ""), at(2, 0))}},
	{what: "Add", seen: []api.Seen{bare(gone(5, "a"), at(1, 0)), bare(put(5, "a", ""), at(1, 0))}},
	{what: "Add", seen: []api.Seen{bare(put(5, "a", ""), at(1, 0)), bare(put(5, "a", ""), at(2, 0)), bare(put(5, "b", ""), at(1, 0)), bare(put(4, "a", ""), at(1, 0))}},
	{what: "Add", seen: []api.Seen{read(put(5, "a", "x"), at(1, 0))}},
	{what: "Add", seen: []api.Seen{read(put(5, "a", "y"), at(1, 0)), read(put(5, "a", "x"), at(2, 0))}},
	{what: "Add", seen: []api.Seen{read(put(5, "a", "xx"), at(2, 0)), read(gone(4, "a"), at(3, 0))}},
	{what: "Add", seen: []api.Seen{read(gone(5, "a"), at(1, 0)), bare(put(6, "b", ""), at(2, 0))}},
	{what: "Add", seen: []api.Seen{read(put(5, "a", "x"), at(1, 0)), {}}},
	{what: "Add", of: 1, seen: []api.Seen{bare(put(5, "a", ""), at(1, 0)), bare(put(5, "a", ""), at(3, 0))}},
	{what: "Add", of: 1, seen: []api.Seen{read(put(5, "a", "x"), at(1, 0)), bare(put(5, "b", ""), at(1, 0)), bare(put(5, "b", ""), at(2, 0))}},
	{what: "Settle", place: at(1, 0), body: body(put(5, "a", "x"))},
	{what: "Settle", place: at(1, 0), body: body(gone(5, "a"))},
	{what: "Settle", place: at(1, 0), body: body(put(5, "b", "x"))},
	{what: "Settle", place: at(1, 0), body: body(put(4, "a", ""))},
	{what: "Settle", place: at(1, 0), body: ""},
	{what: "Settle", place: at(2, 0), body: body(put(5, "a", "y"))},
	{what: "Settle", place: at(2, 0), body: body(put(6, "b", ""))},
	{what: "Settle", of: 1, place: at(1, 0), body: body(put(5, "b", "x"))},
	{what: "Settle", of: 1, place: at(3, 0), body: body(put(5, "a", ""))},
	{what: "Drop"}, {what: "Drop", segments: []uint32{1}}, {what: "Drop", segments: []uint32{2}}, {what: "Drop", segments: []uint32{3, 1, 3}}, {what: "Drop", of: 1, segments: []uint32{1}},
	{what: "Join", others: []int{1}}, {what: "Join", of: 1, others: []int{0}}, {what: "Join", others: []int{0, -1}},
}

func TestEveryShortRun(t *testing.T) {
	for _, c := range shortCalls {
		for _, d := range shortCalls {
			for _, e := range shortCalls {
				w := newWorld(2)
				run := []call{c, d, e}
				for _, one := range run {
					w.ask(one)
				}
				// what became of it is looked at behind a call that joins both, too
				for _, last := range []call{{what: "Drop"}, {what: "Join", others: []int{1}}} {
					w.check(t, last, append(run, last), "a", "b")
				}
			}
		}
	}
}

// What is not looked at in between comes to the same.
func TestRunsThatAreNotLookedAt(t *testing.T) {
	r := source()
	for range 300 {
		w := newWorld(3)
		var run []call
		for range 40 {
			c := w.anyCall(r)
			run = append(run, c)
			if got, want := w.ask(c); got != want {
				t.Fatalf("%v = %d, want %d", run, got, want)
			}
		}
		w.check(t, call{what: "Drop"}, run, someKeys...)
	}
}
