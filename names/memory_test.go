package names_test

import (
	"slices"
	"sync"
	"testing"

	"salvor/names"
)

// fill writes one name into a list and into its spare room.
func fill(l []string, name string) {
	l = l[:cap(l)]
	for i := range l {
		l[i] = name
	}
}

// rooms are lists of names with others ahead of them and behind.
func rooms(call func(room, l []string)) {
	r := source()
	for _, list := range nameLists() {
		ahead := anyNames(r, 2)
		room := slices.Concat(ahead, list, anyNames(r, 5))
		call(room, room[len(ahead):len(ahead)+len(list)])
	}
}

func TestNoNamesHandedInAreChanged(t *testing.T) {
	rooms(func(room, l []string) {
		before := slices.Clone(room)
		names.Sorted(l...)
		for _, c := range append(unnumbered, numbered...) {
			names.Fresh(c, l...)
		}
		if !slices.Equal(room, before) {
			t.Fatalf("of %q came %q", before, room)
		}
	})
}

func TestSortedSharesNothingWithNamesHandedIn(t *testing.T) {
	rooms(func(room, l []string) {
		before := slices.Clone(room)
		got := names.Sorted(l...)
		fill(got, "changed")
		if !slices.Equal(room, before) {
			t.Fatalf("what Sorted(%q) gives shares memory with it", l)
		}
		// a list that is in order already is not given back either
		sorted := names.Sorted(l...)
		want := slices.Clone(sorted)
		fill(names.Sorted(sorted...), "changed")
		if !slices.Equal(sorted, want) {
			t.Fatalf("what Sorted(%q) gives shares memory with it", want)
		}
	})
}

// What was told stays as it is, whatever becomes of the list; and the next call sees what is there then.
func TestNoNamesHandedInAreKept(t *testing.T) {
	rooms(func(room, l []string) {
		before := slices.Clone(l)
		want := sortedByWords(before)
		got := names.Sorted(l...)
		fill(room, "seg-00000001.log")
		if !slices.Equal(got, want) {
			t.Fatalf("what was told changed with the names: %q, want %q", got, want)
		}
		checkSorted(t, sortedByWords(l), l...)
		for _, c := range numbered {
			checkFresh(t, c, freshByWords(c, l), 0, l...)
		}
		copy(l, before)
		checkSorted(t, want, l...)
		for _, c := range numbered {
			checkFresh(t, c, freshByWords(c, before), 0, l...)
		}
	})
}

func TestTwoAnswersShareNothing(t *testing.T) {
	for _, l := range nameLists() {
		one, other := names.Sorted(l...), names.Sorted(l...)
		rest := slices.Clone(other[:cap(other)])
		fill(one, "changed")
		if !slices.Equal(other[:cap(other)], rest) {
			t.Fatalf("two answers of Sorted(%q) share memory", l)
		}
		checkSorted(t, sortedByWords(l), l...)
	}
}

// Nothing is kept from call to call: many can ask at once, of the same names.
func TestAskedAtOnce(t *testing.T) {
	l := append(anyNames(source(), 200), edgeNames()...)
	want := sortedByWords(l)
	fresh := freshByWords(numbered[0], l)
	var group sync.WaitGroup
	var wrong [8]int
	for i := range wrong {
		group.Go(func() {
			for range 50 {
				n, _ := names.Fresh(numbered[0], l...)
				if !slices.Equal(names.Sorted(l...), want) || n != fresh {
					wrong[i]++
				}
			}
		})
	}
	group.Wait()
	if wrong != [8]int{} {
		t.Errorf("wrong answers of each goroutine: %v", wrong)
	}
}
