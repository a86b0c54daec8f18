package keydir_test

import (
	"slices"
	"testing"

	"salvor/api"
	"salvor/keydir"
)

func TestJoinOfNothing(t *testing.T) {
	l := []api.Seen{bare(put(5, "a", ""), at(1, 0)), bare(put(5, "a", ""), at(2, 0)), read(put(6, "b", "x"), at(1, 20)), read(gone(7, "c"), at(2, 20))}
	d := added(t, l...)
	want := told(d, "a", "b", "c")
	for what, others := range map[string][]*keydir.Dir{
		"none": nil, "nil": {nil}, "itself": {d}, "one that knows nothing": {keydir.New()}, "all of these": {nil, d, keydir.New(), d, nil}, "one like it": {added(t, l...)}, "parts of it": {added(t, l[0]), added(t, l[3], l[1])},
	} {
		d.Join(others...)
		if got := told(d, "a", "b", "c"); got != want {
			t.Errorf("behind Join of %s it tells\n%s\nwant\n%s", what, got, want)
		}
	}
	empty := keydir.New()
	empty.Join()
	empty.Join(nil, empty, keydir.New())
	checkTop(t, empty, 0)
	checkKeys(t, empty)
	empty.Join(d)
	if got := told(empty, "a", "b", "c"); got != want {
		t.Errorf("what knew nothing tells\n%s\nwant\n%s", got, want)
	}
}

func TestJoin(t *testing.T) {
	d := added(t, bare(put(5, "a", ""), at(1, 0)), read(put(1, "b", ""), at(1, 20)))
	other := added(t, read(put(5, "a", "x"), at(1, 0)), read(put(5, "a", "y"), at(2, 0)), bare(put(9, "c", ""), at(2, 20)))
	third := added(t, read(gone(2, "b"), at(3, 0)))
	d.Join(other, third)
	checkCounts(t, d, read(put(5, "a", "y"), at(2, 0)))
	checkCounts(t, d, read(gone(2, "b"), at(3, 0)))
	checkCounts(t, d, bare(put(9, "c", ""), at(2, 20)))
	checkRivals(t, d)
	checkTop(t, d, 9)
	// the others are as they were
	checkKeys(t, other, "a", "c")
	checkNothing(t, other, "b", api.ErrKeydirNone)
	checkCounts(t, third, read(gone(2, "b"), at(3, 0)))
	checkTop(t, third, 2)
}

// Both know the same thing, Known and not: it is Known, whichever takes in the other.
func TestJoinOfTheSameThing(t *testing.T) {
	known, same := read(put(5, "a", "x"), at(1, 0)), bare(put(5, "a", ""), at(1, 0))
	other := bare(put(5, "a", ""), at(2, 0))
	for _, c := range [][2][]api.Seen{{{known}, {same}}, {{same}, {known}}, {{same, other}, {known}}, {{known}, {same, other}}, {{known, other}, {same, other}}, {{same}, {known, other}}} {
		d, e := added(t, c[0]...), added(t, c[1]...)
		d.Join(e)
		all := slices.Concat(c[0], c[1])
		checkAlike(t, d, &paper{all}, "a")
		if slices.Contains(all, other) {
			checkRivals(t, d, at(2, 0))
			checkSettle(t, d, at(1, 0), body(put(5, "a", "zzz")), api.ErrKeydirNone)
			checkSettle(t, d, at(2, 0), "", api.OK)
		}
		checkCounts(t, d, known)
	}
	d := added(t, same)
	d.Join(added(t, same), added(t, same))
	checkCounts(t, d, same)
	checkRivals(t, d)
}

// What does not count is taken in too: it may count later.
func TestJoinTakesInAll(t *testing.T) {
	elder := read(put(1, "a", "elder"), at(1, 0))
	e := added(t, elder, bare(put(2, "a", ""), at(2, 0)), read(put(2, "a", ""), at(3, 0)), read(put(3, "a", ""), at(4, 0)))
	d := keydir.New()
	d.Join(e)
	checkCounts(t, d, read(put(3, "a", ""), at(4, 0)))
	d.Drop(4)
	checkNothing(t, d, "a", api.ErrKeydirOpen)
	checkRivals(t, d, at(2, 0))
	d.Drop(2, 3)
	checkCounts(t, d, elder)
}

// What one has settled or dropped is not what the other one knows.
func TestJoinTakesInWhatIsKnownThere(t *testing.T) {
	l := []api.Seen{bare(put(5, "a", ""), at(1, 0)), bare(put(5, "a", ""), at(2, 0)), bare(put(5, "a", ""), at(3, 0))}
	settled := added(t, l...)
	checkSettle(t, settled, at(1, 0), body(put(5, "a", "x")), api.OK)
	checkSettle(t, settled, at(2, 0), "", api.OK)
	settled.Drop(3)
	d := keydir.New()
	d.Join(settled)
	checkCounts(t, d, read(put(5, "a", "x"), at(1, 0)))
	// what was forgotten there is known here
	d = added(t, l[1])
	d.Join(settled)
	checkNothing(t, d, "a", api.ErrKeydirOpen)
	checkRivals(t, d, at(2, 0))
	settled.Join(added(t, l...))
	checkRivals(t, settled, at(2, 0), at(3, 0))
}

// Behind a Join both go on alone, whichever changes.
func TestDirectoriesGoOnAloneBehindAJoin(t *testing.T) {
	l := []api.Seen{
		bare(put(5, "a", ""), at(1, 0)), bare(put(5, "a", ""), at(2, 0)), bare(put(4, "a", ""), at(3, 0)), read(put(6, "b", "x"), at(1, 20)), bare(put(5, "c", ""), at(1, 0)), bare(put(3, "d", ""), at(3, 0)), read(put(2, "e", ""), at(2, 0)),
	}
	keys := []string{"a", "b", "c", "d", "e", "f"}
	for what, change := range map[string]func(d *keydir.Dir){
		"Settle": func(d *keydir.Dir) { d.Settle(at(1, 0), body(put(5, "a", "x"))) },
		"forget": func(d *keydir.Dir) { d.Settle(at(1, 0), ""); d.Settle(at(2, 0), "") },
		"Add": func(d *keydir.Dir) {
			d.Add(read(put(5, "a", "x"), at(1, 0)), read(put(3, "d", ""), at(3, 0)), read(put(1, "a", ""), at(1, 1)), bare(put(5, "b", ""), at(1, 0)), read(put(9, "f", ""), at(9, 0)))
		},
		"Drop": func(d *keydir.Dir) { d.Drop(1, 2) },
		"Drop1": func(d *keydir.Dir) {
			d.Drop(1)
			d.Add(bare(put(5, "f", ""), at(1, 0)), bare(put(5, "f", ""), at(1, 9)))
		},
		"Join": func(d *keydir.Dir) {
			d.Join(added(t, bare(put(7, "b", ""), at(1, 0)), bare(put(7, "b", ""), at(2, 0))))
		},
	} {
		for _, some := range [][]api.Seen{nil, l[:3], l} { // into one that knows nothing, a part, or all of it
			d, e := added(t, some...), added(t, l...)
			d.Join(e)
			want := told(e, keys...)
			change(d)
			if told(d, keys...) == want {
				t.Errorf("%s changes nothing", what)
			}
			if got := told(e, keys...); got != want {
				t.Errorf("behind %s the one that was joined tells\n%s\nwant\n%s", what, got, want)
			}
			d = added(t, some...)
			d.Join(e)
			want = told(d, keys...)
			change(e)
			if got := told(d, keys...); got != want {
				t.Errorf("behind %s of the other one it tells\n%s\nwant\n%s", what, got, want)
			}
		}
	}
}

func TestDrop(t *testing.T) {
	d := added(t,
		read(put(5, "a", "y"), at(3, 7)), read(put(5, "a", "y"), at(8, 0)), read(put(4, "a", "x"), at(2, 0)), bare(gone(3, "a"), at(2, 20)),
		read(gone(6, "b"), at(3, 0)), read(put(5, "b", ""), at(8, 20)), read(put(1, "c", ""), at(3, 40)))
	checkCounts(t, d, read(put(5, "a", "y"), at(3, 7)))
	d.Drop()
	d.Drop(0, 1, 77, 1<<32-1)
	checkCounts(t, d, read(put(5, "a", "y"), at(3, 7)))
	checkTop(t, d, 6)
	d.Drop(3)
	checkCounts(t, d, read(put(5, "a", "y"), at(8, 0)))
	checkCounts(t, d, read(put(5, "b", ""), at(8, 20)))
	checkNothing(t, d, "c", api.ErrKeydirNone)
	checkTop(t, d, 5)
	d.Drop(3, 8, 8, 3)
	checkCounts(t, d, read(put(4, "a", "x"), at(2, 0)))
	checkNothing(t, d, "b", api.ErrKeydirNone)
	checkTop(t, d, 4)
	checkKeys(t, d, "a")
	d.Drop(8)
	checkCounts(t, d, read(put(4, "a", "x"), at(2, 0)))
	d.Drop(2)
	checkNothing(t, d, "a", api.ErrKeydirNone)
	checkTop(t, d, 0)
	checkKeys(t, d)
	d.Drop(2)
	keydir.New().Drop(1, 2, 3)
	keydir.New().Drop()
	// it goes on
	add(t, d, read(put(1, "a", ""), at(2, 0)))
	checkCounts(t, d, read(put(1, "a", ""), at(2, 0)))
}

// Segments whose records are open: what is left may be open no more, or as before, or for the first time.
func TestDropOfOpenSegments(t *testing.T) {
	one, two, three := bare(put(5, "a", ""), at(1, 0)), bare(put(5, "a", ""), at(2, 0)), bare(put(5, "a", ""), at(3, 0))
	d := added(t, one, two, three, bare(put(4, "a", ""), at(4, 0)), bare(put(4, "a", ""), at(5, 0)))
	checkRivals(t, d, at(1, 0), at(2, 0), at(3, 0))
	d.Drop(2)
	checkRivals(t, d, at(1, 0), at(3, 0))
	checkSettle(t, d, at(2, 0), body(put(5, "a", "")), api.ErrKeydirNone)
	d.Drop(1)
	checkRivals(t, d)
	checkCounts(t, d, three)
	d.Drop(3)
	checkNothing(t, d, "a", api.ErrKeydirOpen)
	checkRivals(t, d, at(4, 0), at(5, 0))
	d.Drop(5, 4)
	checkNothing(t, d, "a", api.ErrKeydirNone)
	// taken in again, they are wanted again, each place once
	add(t, d, one, two)
	checkRivals(t, d, at(1, 0), at(2, 0))
	checkSettle(t, d, at(1, 0), body(put(5, "a", "x")), api.OK)
	checkSettle(t, d, at(2, 0), body(put(5, "a", "w")), api.OK)
	checkCounts(t, d, read(put(5, "a", "x"), at(1, 0)))
}

// What was settled stays so, though what it was settled for is dropped.
func TestDropOfWhatItWasSettledFor(t *testing.T) {
	d := added(t, bare(put(5, "a", ""), at(1, 0)), bare(put(5, "a", ""), at(2, 0)), bare(put(5, "b", ""), at(1, 0)))
	checkSettle(t, d, at(1, 0), body(put(5, "a", "x")), api.OK)
	d.Drop(2)
	checkCounts(t, d, read(put(5, "a", "x"), at(1, 0)))
	checkNothing(t, d, "b", api.ErrKeydirNone)
}
