package keydir_test

import (
	"slices"
	"strings"
	"testing"

	"salvor/api"
	"salvor/keydir"
)

func TestTellsOfNothing(t *testing.T) {
	d := keydir.New()
	for _, key := range []string{"", "a", strings.Repeat("a", 64), strings.Repeat("a", 65)} {
		checkNothing(t, d, key, api.ErrKeydirNone)
	}
	checkKeys(t, d)
	checkTop(t, d, 0)
	if d.All() == nil {
		t.Fatal("All() = nil")
	}
	for s := range d.All() {
		t.Errorf("All tells %v", s)
	}
}

// The chapter's examples.
func TestKnownExamples(t *testing.T) {
	d := added(t, read(put(5, "a", "x"), at(1, 0)), read(put(4, "a", "y"), at(2, 0)))
	checkCounts(t, d, read(put(5, "a", "x"), at(1, 0)))

	d = added(t, read(put(5, "a", "x"), at(1, 0)), read(put(5, "a", "y"), at(2, 0)))
	checkCounts(t, d, read(put(5, "a", "y"), at(2, 0)))

	d = added(t, read(put(5, "a", "x"), at(2, 0)), read(put(5, "a", "x"), at(1, 9)))
	checkCounts(t, d, read(put(5, "a", "x"), at(1, 9)))

	d = added(t, bare(put(5, "a", ""), at(1, 0)))
	checkCounts(t, d, bare(put(5, "a", ""), at(1, 0)))
	checkRivals(t, d)
	add(t, d, bare(put(5, "a", ""), at(2, 0)))
	checkNothing(t, d, "a", api.ErrKeydirOpen)
	checkRivals(t, d, at(1, 0), at(2, 0))

	d = added(t, read(gone(6, "a"), at(3, 0)), read(put(5, "a", "x"), at(1, 0)))
	checkCounts(t, d, read(gone(6, "a"), at(3, 0)))
	checkNoValue(t, d, "a", api.ErrKeydirNone)
}

// inEveryOrder hands over a list in each order.
func inEveryOrder(l []api.Seen, look func(l []api.Seen)) {
	if len(l) < 2 {
		look(l)
		return
	}
	for i := range l {
		rest := slices.Concat(l[:i], l[i+1:])
		inEveryOrder(rest, func(others []api.Seen) { look(append([]api.Seen{l[i]}, others...)) })
	}
}

// The greatest LSN counts, whatever stands beside it with a lower one: bodies, places, kinds, Known or not.
func TestTheGreatestLSNCounts(t *testing.T) {
	for _, top := range []api.Seen{
		read(put(300, "a", ""), at(9, 9)), bare(put(300, "a", ""), at(9, 9)), read(gone(300, "a"), at(9, 9)), bare(gone(300, "a"), at(9, 9)), bare(put(greatest, "a", ""), at(9, 9)),
	} {
		others := []api.Seen{
			read(put(299, "a", "zzz"), at(1, 0)), bare(put(299, "a", ""), at(1, 0)), bare(put(299, "a", ""), at(1, 9)), bare(gone(255, "a"), at(1, 0)), bare(put(1, "a", ""), at(9, 9)),
		}
		d := added(t, others...)
		checkNothing(t, d, "a", api.ErrKeydirOpen)
		add(t, d, top)
		checkCounts(t, d, top)
		checkTop(t, d, top.LSN)
		checkRivals(t, d)
		d = added(t, top)
		add(t, d, others...)
		checkCounts(t, d, top)
		checkTop(t, d, top.LSN)
		checkRivals(t, d)
	}
}

// Of those with the greatest LSN the greatest body counts, wherever it stands, in whatever order they come.
func TestTheGreatestBodyCounts(t *testing.T) {
	long := strings.Repeat("a", 2048)
	ascending := []api.Record{
		put(5, "a", ""), put(5, "a", "\x00"), put(5, "a", "a"), put(5, "a", "a\x00"), put(5, "a", "aa"), put(5, "a", long), put(5, "a", "b"), put(5, "a", "\x7f"), put(5, "a", "\x80"), put(5, "a", "\xff"), gone(5, "a"),
	}
	for i, less := range ascending {
		for _, more := range ascending[i+1:] {
			for _, places := range [][2]api.Place{{at(1, 0), at(2, 0)}, {at(2, 0), at(1, 0)}, {at(1, 5), at(1, 0)}, {at(1, 0), at(1, 0)}} {
				first, second := read(less, places[0]), read(more, places[1])
				checkCounts(t, added(t, first, second), second)
				checkCounts(t, added(t, second, first), second)
			}
		}
	}
	var l []api.Seen
	for i, r := range ascending {
		l = append(l, read(r, at(uint32(20-i), i)))
		checkCounts(t, added(t, l...), l[i])
	}
	slices.Reverse(l)
	checkCounts(t, added(t, l...), l[0])
}

// Of those with the greatest body the one with the least place counts: by Segment, then At, then Len.
func TestTheLeastPlaceCounts(t *testing.T) {
	places := []api.Place{place(1, 0, 1), place(1, 0, 2), place(1, 0, 300), place(1, 1, 1), place(1, 2, 1), place(1, 10, 1), place(1, 300, 1), place(2, 0, 1), place(2, 0, 2), place(10, 0, 1), place(300, 0, 1), place(1<<31, 0, 1), place(1<<32-1, 0, 1)}
	for _, r := range []api.Record{put(5, "a", "x"), put(5, "a", ""), gone(5, "a")} {
		for i, p := range places {
			for _, q := range places[i+1:] {
				for _, l := range [][]api.Seen{{read(r, p), read(r, q)}, {read(r, q), read(r, p)}, {read(r, q), read(r, p), read(r, q)}} {
					d := added(t, l...)
					checkCounts(t, d, read(r, p))
					checkRivals(t, d)
				}
			}
		}
	}
	// lesser ones with lesser bodies count for nothing
	inEveryOrder([]api.Seen{read(put(5, "a", "x"), at(1, 0)), read(put(5, "a", "y"), at(2, 5)), read(put(5, "a", "y"), at(2, 4)), read(put(5, "a", "y"), at(3, 0))}, func(l []api.Seen) {
		checkCounts(t, added(t, l...), read(put(5, "a", "y"), at(2, 4)))
	})
}

// It is open as soon as one of several rivals is not Known, whatever the others are.
func TestWhenItIsOpen(t *testing.T) {
	one := bare(put(5, "a", ""), at(2, 0))
	for _, other := range []api.Seen{
		bare(put(5, "a", ""), at(1, 0)), bare(put(5, "a", ""), at(2, 1)), bare(put(5, "a", ""), place(2, 0, 21)), bare(gone(5, "a"), at(3, 0)),
		read(put(5, "a", ""), at(1, 0)), read(put(5, "a", "\xff"), at(3, 0)), read(gone(5, "a"), at(3, 0)),
		bare(gone(5, "a"), at(2, 0)), read(gone(5, "a"), at(2, 0)), // the same place, but another kind
	} {
		for _, l := range [][]api.Seen{{one, other}, {other, one}, {one, other, one}} {
			d := added(t, l...)
			checkNothing(t, d, "a", api.ErrKeydirOpen)
			checkKeys(t, d)
			checkTop(t, d, 5)
		}
	}
	// of a Delete likewise, though its body could be no other one
	d := added(t, bare(gone(5, "a"), at(1, 0)), bare(gone(5, "a"), at(2, 0)))
	checkNothing(t, d, "a", api.ErrKeydirOpen)
	checkRivals(t, d, at(1, 0), at(2, 0))
	d = added(t, read(put(5, "a", "x"), at(1, 0)), read(put(5, "a", "y"), at(2, 0)), bare(put(5, "a", ""), at(3, 0)), read(gone(5, "a"), at(4, 0)))
	checkNothing(t, d, "a", api.ErrKeydirOpen)
	checkRivals(t, d, at(3, 0))
}

// One that is not Known is nothing beside one that is, of the same LSN, kind and place: whichever comes first.
func TestBareIsNothingBesideKnown(t *testing.T) {
	for _, known := range []api.Seen{read(put(5, "a", "x"), at(1, 0)), read(put(5, "a", ""), at(1, 0)), read(gone(5, "a"), at(1, 0))} {
		same := with(known, func(s *api.Seen) { s.Known, s.Body = false, "" })
		for _, l := range [][]api.Seen{{known, same}, {same, known}, {same, known, same}, {known, same, known}, {same, same, known}} {
			d := added(t, l...)
			checkCounts(t, d, known)
			checkRivals(t, d)
			// one call each
			d = keydir.New()
			for _, s := range l {
				add(t, d, s)
			}
			checkCounts(t, d, known)
			checkRivals(t, d)
			// and beside one that stands elsewhere
			add(t, d, read(put(5, "a", ""), at(2, 0)))
			checkRivals(t, d)
			if _, errno := d.Last("a"); errno != api.OK {
				t.Errorf("Last tells %d", errno)
			}
		}
		// but where the place, the kind, the LSN or the key is another one, it is something
		for _, other := range []api.Seen{
			with(same, func(s *api.Seen) { s.Place.Segment++ }), with(same, func(s *api.Seen) { s.Place.At++ }), with(same, func(s *api.Seen) { s.Place.Len++ }), with(same, func(s *api.Seen) { s.Kind = 3 - s.Kind }),
		} {
			checkNothing(t, added(t, known, other), "a", api.ErrKeydirOpen)
			checkNothing(t, added(t, other, known), "a", api.ErrKeydirOpen)
		}
		checkCounts(t, added(t, known, with(same, func(s *api.Seen) { s.LSN++ })), with(same, func(s *api.Seen) { s.LSN++ }))
		checkCounts(t, added(t, known, with(same, func(s *api.Seen) { s.LSN-- })), known)
		checkCounts(t, added(t, known, with(same, func(s *api.Seen) { s.Key = "b" })), with(same, func(s *api.Seen) { s.Key = "b" }))
	}
}

// Several Known ones with unlike bodies at one place: one that is not Known is nothing beside any of them.
func TestSeveralBodiesAtOnePlace(t *testing.T) {
	x, y, z := read(put(5, "a", "x"), at(1, 0)), read(put(5, "a", "y"), at(1, 0)), read(put(5, "a", "z"), at(1, 0))
	inEveryOrder([]api.Seen{x, y, bare(put(5, "a", ""), at(1, 0)), z, y}, func(l []api.Seen) {
		d := added(t, l...)
		checkCounts(t, d, z)
		checkRivals(t, d)
		d.Drop(1)
		checkNothing(t, d, "a", api.ErrKeydirNone)
	})
	checkCounts(t, added(t, x, y), y)
	checkCounts(t, added(t, y, x), y)
}

// One of several keys tells nothing of the others, also where one is the other's beginning.
func TestKeysHaveNothingToDoWithOneAnother(t *testing.T) {
	d := added(t,
		bare(put(9, "a", ""), at(1, 0)), bare(put(9, "a", ""), at(2, 0)),
		read(put(9, "ab", "v"), at(1, 0)), read(gone(9, "abc"), at(1, 0)), bare(put(3, "b", ""), at(1, 0)), read(put(2, "b", ""), at(2, 0)))
	checkNothing(t, d, "a", api.ErrKeydirOpen)
	checkCounts(t, d, read(put(9, "ab", "v"), at(1, 0)))
	checkCounts(t, d, read(gone(9, "abc"), at(1, 0)))
	checkCounts(t, d, bare(put(3, "b", ""), at(1, 0)))
	for _, key := range []string{"", "A", "a\x00", "abcd", "c"} {
		checkNothing(t, d, key, api.ErrKeydirNone)
	}
	checkKeys(t, d, "ab", "b")
}

func TestKeysInOrder(t *testing.T) {
	r := source()
	for range 50 {
		var l []api.Seen
		var want []api.Seen
		for i, key := range sortedKeys {
			counts := pick(r, read, bare)(put(uint64(i+2), key, ""), at(uint32(r.Intn(100)+1), r.Intn(100)))
			want = append(want, counts)
			l = append(l, counts, read(put(1, key, "elder"), at(5, 5)))
		}
		// keys without values, that stand between the others
		for i, key := range []string{"a\x01", "B", "\xfe"} {
			l = append(l, read(put(1, key, ""), at(1, 0)), read(gone(2, key), at(1, i)))
			l = append(l, bare(put(7, key+"?", ""), at(1, 0)), bare(put(7, key+"?", ""), at(2, 0)))
		}
		r.Shuffle(len(l), func(i, k int) { l[i], l[k] = l[k], l[i] })
		d := keydir.New()
		for _, some := range [][]api.Seen{l[:20], l[20:21], l[21:]} {
			add(t, d, some...)
		}
		checkKeys(t, d, sortedKeys...)
		if got := slices.Collect(d.All()); !slices.Equal(got, want) {
			t.Fatalf("All tells %v, want %v", got, want)
		}
	}
}

// Top is of all that is known, also of what does not count, and goes down where that is forgotten.
func TestTop(t *testing.T) {
	d := added(t, read(put(1, "a", ""), at(1, 0)))
	checkTop(t, d, 1)
	add(t, d, read(gone(7, "b"), at(2, 0)))
	checkTop(t, d, 7)
	add(t, d, bare(put(9, "c", ""), at(3, 0)), bare(put(9, "c", ""), at(4, 0)), read(put(8, "d", ""), at(5, 0)))
	checkTop(t, d, 9)
	add(t, d, read(put(greatest, "a", ""), at(6, 0)))
	checkTop(t, d, greatest)
	d.Drop(6)
	checkTop(t, d, 9)
	checkErrno(t, "Settle", d.Settle(at(3, 0), ""), api.OK)
	checkTop(t, d, 9)
	d.Drop(4)
	checkTop(t, d, 8)
	d.Drop(5)
	checkTop(t, d, 7)
	d.Drop(2)
	checkTop(t, d, 1)
	d.Drop(1)
	checkTop(t, d, 0)
}

// What Settle forgets counts for Top no more.
func TestTopBehindSettle(t *testing.T) {
	d := added(t, bare(put(9, "a", ""), at(1, 0)), bare(put(9, "a", ""), at(2, 0)), bare(put(20, "b", ""), at(1, 0)), read(put(3, "c", ""), at(5, 0)))
	checkTop(t, d, 20)
	checkErrno(t, "Settle", d.Settle(at(1, 0), body(put(9, "a", "x"))), api.OK)
	checkTop(t, d, 9)
	checkNothing(t, d, "b", api.ErrKeydirNone)
}
