package keydir_test

import (
	"slices"
	"strconv"
	"strings"
	"testing"

	"salvor/api"
)

func keysOf(told func(func(api.Seen) bool)) string {
	var keys []string
	for s := range told {
		keys = append(keys, s.Key+strconv.FormatUint(s.LSN, 10))
	}
	return strings.Join(keys, " ")
}

// It tells what is known when a range begins, not when it was asked for.
func TestAllBegunAheadOfChanges(t *testing.T) {
	d := added(t)
	all := d.All()
	for i, step := range []struct {
		change func()
		want   string
	}{
		{func() {}, ""},
		{func() { add(t, d, read(put(2, "b", ""), at(1, 0)), bare(put(1, "a", ""), at(2, 0))) }, "a1 b2"},
		{func() { add(t, d, read(put(4, "b", ""), at(1, 0))) }, "a1 b4"},
		{func() { add(t, d, read(gone(5, "a"), at(1, 0))) }, "b4"},
		{func() { add(t, d, bare(put(4, "b", ""), at(3, 0))) }, ""},
		{func() { d.Settle(at(3, 0), "") }, "b4"},
		{func() { d.Join(added(t, read(put(3, "c", ""), at(1, 0)))) }, "b4 c3"},
		{func() { d.Add(api.Seen{}) }, "b4 c3"},
		{func() { d.Drop(1) }, "a1"},
		{func() { d.Drop(2) }, ""},
	} {
		step.change()
		for range 2 {
			if got := keysOf(all); got != step.want {
				t.Errorf("behind step %d All tells %q, want %q", i, got, step.want)
			}
		}
	}
}

// What is done within a range is not told by it, but by the next one.
func TestChangesWithinARangeOfAll(t *testing.T) {
	d := added(t, read(put(1, "a", ""), at(1, 0)), read(put(2, "b", ""), at(2, 0)), read(put(3, "c", "x"), at(3, 0)), read(put(4, "d", ""), at(2, 20)))
	all := d.All()
	var got []api.Seen
	for s := range all {
		got = append(got, s)
		switch s.Key {
		case "a":
			d.Drop(2)
			add(t, d, read(put(9, "c", "y"), at(4, 0)), read(put(9, "A", ""), at(4, 20)), read(put(9, "cc", ""), at(4, 40)))
		case "b":
			add(t, d, bare(put(9, "c", ""), at(5, 0)))
			d.Join(added(t, read(gone(10, "a"), at(6, 0))))
		}
	}
	want := []api.Seen{read(put(1, "a", ""), at(1, 0)), read(put(2, "b", ""), at(2, 0)), read(put(3, "c", "x"), at(3, 0)), read(put(4, "d", ""), at(2, 20))}
	if !slices.Equal(got, want) {
		t.Errorf("All tells %v, want %v", got, want)
	}
	if got := keysOf(all); got != "A9 cc9" {
		t.Errorf("All tells %q", got)
	}
}

func TestAllLeftEarly(t *testing.T) {
	var l []api.Seen
	for i := range 10 {
		l = append(l, read(put(uint64(i+1), "key "+strconv.Itoa(i), ""), at(1, i)))
	}
	d := added(t, l...)
	all := d.All()
	for stop := range 12 {
		var got []api.Seen
		for s := range all {
			if len(got) == stop {
				break
			}
			got = append(got, s)
		}
		if want := l[:min(stop, 10)]; !slices.Equal(got, want) {
			t.Errorf("till %d it tells %v, want %v", stop, got, want)
		}
		calls := 0
		all(func(api.Seen) bool { calls++; return calls < stop })
		if want := min(max(stop, 1), 10); calls != want {
			t.Errorf("who stops at %d is called %d times, want %d", stop, calls, want)
		}
	}
	if got := slices.Collect(all); !slices.Equal(got, l) {
		t.Errorf("All tells %v", got)
	}
}

func TestAllWithinARangeOfItself(t *testing.T) {
	d := added(t, read(put(1, "a", ""), at(1, 0)), read(put(2, "b", ""), at(1, 20)), read(put(3, "c", ""), at(2, 0)))
	all := d.All()
	got := ""
	for outer := range all {
		got += outer.Key + "("
		for inner := range all {
			if inner.Key == "c" {
				break
			}
			got += inner.Key
			if outer.Key == "b" && inner.Key == "a" {
				d.Drop(2)
				add(t, d, read(put(4, "d", ""), at(3, 0)))
			}
		}
		got += ")"
	}
	// the range that is under way goes on with c; the one that is begun within that has it no more
	if want := "a(ab)b(ab)c(abd)"; got != want {
		t.Errorf("it tells %s, want %s", got, want)
	}
}

// A panic of whoever ranges goes through, and what is ranged over later is as before.
func TestAllGivenUp(t *testing.T) {
	d := added(t, read(put(1, "a", ""), at(1, 0)), read(put(2, "b", ""), at(1, 20)))
	all := d.All()
	func() {
		defer func() { recover() }()
		for range all {
			panic("given up")
		}
	}()
	if got := keysOf(all); got != "a1 b2" {
		t.Errorf("All tells %q", got)
	}
}
