package keydir_test

import (
	"slices"
	"strings"
	"testing"

	"salvor/api"
	"salvor/keydir"
)

func checkSettle(t *testing.T, d *keydir.Dir, p api.Place, text string, want api.Errno) {
	t.Helper()
	if errno := d.Settle(p, text); errno != want {
		t.Errorf("Settle(%v, %q) = %d, want %d", p, text, errno, want)
	}
}

// Places are wanted of rivals that are not Known, of keys of which it is open: by Segment, then At, then Len.
func TestRivalsInOrder(t *testing.T) {
	places := []api.Place{place(1, 0, 1), place(1, 0, 2), place(1, 0, 300), place(1, 1, 1), place(1, 2, 1), place(1, 10, 1), place(1, 300, 1), place(2, 0, 1), place(2, 0, 2), place(10, 0, 1), place(300, 0, 1), place(1<<31, 0, 1), place(1<<32-1, 0, 1)}
	r := source()
	for range 30 {
		var l []api.Seen
		for _, p := range places {
			for _, key := range []string{"a", "b", "c"} { // each place once, of however many keys
				l = append(l, bare(put(5, key, ""), p), bare(gone(5, key), p), bare(put(4, key, ""), p))
			}
		}
		r.Shuffle(len(l), func(i, k int) { l[i], l[k] = l[k], l[i] })
		checkRivals(t, added(t, l...), places...)
	}
}

func TestWhatIsWanted(t *testing.T) {
	d := added(t,
		bare(put(5, "a", ""), at(1, 0)),                                  // alone
		bare(put(5, "b", ""), at(2, 0)), read(put(5, "b", ""), at(3, 0)), // one of two
		bare(put(4, "b", ""), at(4, 0)), bare(put(4, "b", ""), at(5, 0)), // elder ones
		read(put(5, "c", ""), at(6, 0)), read(put(5, "c", ""), at(7, 0)), // all Known
		bare(put(5, "d", ""), at(9, 0)), bare(gone(5, "d"), at(9, 0)), // two kinds at one place
		bare(put(5, "e", ""), at(8, 0)), bare(put(5, "e", ""), at(9, 0)),
	)
	checkRivals(t, d, at(2, 0), at(8, 0), at(9, 0))
	add(t, d, read(gone(6, "b"), at(1, 9)))
	checkRivals(t, d, at(8, 0), at(9, 0))
	add(t, d, bare(put(5, "a", ""), at(1, 1)))
	checkRivals(t, d, at(1, 0), at(1, 1), at(8, 0), at(9, 0))
	add(t, d, read(put(5, "a", "x"), at(1, 1)))
	checkRivals(t, d, at(1, 0), at(8, 0), at(9, 0))
	d.Drop(9)
	checkRivals(t, d, at(1, 0))
	d.Drop(1)
	checkRivals(t, d, at(2, 0))
	d.Drop(3)
	checkRivals(t, d)
}

// What is not wanted is not settled, whatever is known of it.
func TestSettleOfWhatIsNotWanted(t *testing.T) {
	l := []api.Seen{
		bare(put(5, "a", ""), at(1, 0)), // alone
		read(put(5, "b", ""), at(2, 0)), bare(put(5, "b", ""), at(3, 0)),
		bare(put(4, "b", ""), at(4, 0)), bare(put(4, "b", ""), at(5, 0)), // elder ones
		read(put(5, "c", ""), at(6, 0)), read(put(5, "c", ""), at(7, 0)),
	}
	d, p := added(t, l...), &paper{l}
	for _, other := range []api.Place{
		at(1, 0), at(2, 0), at(4, 0), at(5, 0), at(6, 0), at(8, 0), place(3, 0, 19), place(3, 0, 21), place(3, 1, 20), place(3, -1, 20), place(4, 0, 20), {}, place(0, 0, 20), place(3, 0, 0), place(3, 0, -20), place(1<<32-1, 0, 1),
	} {
		for _, text := range []string{"", "x", body(put(5, "a", "")), body(put(5, "b", "")), body(put(4, "b", "")), body(put(5, "c", ""))} {
			checkSettle(t, d, other, text, api.ErrKeydirNone)
			checkAlike(t, d, p, "a", "b", "c")
		}
	}
	checkSettle(t, added(t), at(1, 0), body(put(5, "a", "")), api.ErrKeydirNone)
	checkSettle(t, added(t), api.Place{}, "", api.ErrKeydirNone)
}

// What fits becomes Known; with all of them Known the greatest body counts.
func TestSettleByBodiesThatFit(t *testing.T) {
	long := strings.Repeat("v", 2048)
	for _, c := range []struct{ one, other, counts api.Record }{
		{put(5, "a", "x"), put(5, "a", "y"), put(5, "a", "y")},
		{put(5, "a", "y"), put(5, "a", "x"), put(5, "a", "y")},
		{put(5, "a", "x"), put(5, "a", "xx"), put(5, "a", "xx")}, // one is the other's beginning
		{put(5, "a", ""), put(5, "a", "\x00"), put(5, "a", "\x00")},
		{put(5, "a", long), put(5, "a", "w"), put(5, "a", "w")},
		{put(5, "a", long), put(5, "a", long[1:]), put(5, "a", long)},
		{put(5, "a", "zz"), gone(5, "a"), gone(5, "a")},
		{gone(5, "a"), put(5, "a", "zz"), gone(5, "a")},
		{put(greatest, "a", "y"), put(greatest, "a", ""), put(greatest, "a", "y")},
	} {
		for _, places := range [][2]api.Place{{at(1, 0), at(2, 0)}, {at(2, 0), at(1, 0)}} {
			counts := read(c.counts, places[0])
			if c.counts == c.other {
				counts = read(c.counts, places[1])
			}
			for _, order := range [][2]int{{0, 1}, {1, 0}} {
				d := added(t, bare(c.one, places[0]), bare(c.other, places[1]), read(put(1, "a", ""), at(9, 0)))
				for i, which := range order {
					checkNothing(t, d, "a", api.ErrKeydirOpen)
					checkSettle(t, d, places[which], body([]api.Record{c.one, c.other}[which]), api.OK)
					if i == 0 {
						checkRivals(t, d, places[1-which])
					}
				}
				checkCounts(t, d, counts)
				checkRivals(t, d)
				checkTop(t, d, c.one.LSN)
			}
		}
	}
}

// The same body at several places: the least one counts.
func TestSettleByTheSameBody(t *testing.T) {
	r := put(5, "a", "x")
	places := []api.Place{place(1, 5, 20), place(1, 5, 21), place(1, 6, 1), place(2, 0, 1), place(3, 0, 1)}
	for from := range places {
		d := added(t)
		for _, p := range places {
			add(t, d, bare(r, p))
		}
		for i := range places {
			checkRivals(t, d, slices.DeleteFunc(slices.Clone(places), func(p api.Place) bool { return (slices.Index(places, p)-from+5)%5 < i })...)
			checkSettle(t, d, places[(from+i)%5], body(r), api.OK)
		}
		checkCounts(t, d, read(r, places[0]))
		checkRivals(t, d)
	}
}

// What does not fit is forgotten, whatever is wrong with the body, and the other one is alone then.
func TestSettleByBodiesThatDoNotFit(t *testing.T) {
	r := put(300, "ab", "")
	texts := []string{
		"", "x", "\x01", body(r)[:4], body(r)[:5], " " + body(r), "\x01\xac\x82\x00\x02ab", "\x01\xac\x02\x82\x00ab",
		body(put(301, "ab", "x")), body(put(44, "ab", "x")), body(put(300, "ac", "x")), body(put(300, "a", "bx")), body(put(300, "abx", "")), body(gone(300, "ab")), body(gone(300, "\x02ab")),
		"\x03" + body(r)[1:], "\x04\x00\x00\x00\x00", body(put(300, "ab", strings.Repeat("v", 2049))), strings.Repeat("v", 10000),
	}
	for _, text := range texts {
		other := bare(r, at(2, 0))
		d := added(t, bare(r, at(1, 0)), other)
		checkSettle(t, d, at(1, 0), text, api.OK)
		checkCounts(t, d, other) // alone, no body is wanted
		checkRivals(t, d)
		checkSettle(t, d, at(1, 0), text, api.ErrKeydirNone)
		checkSettle(t, d, at(2, 0), text, api.ErrKeydirNone)
		d.Drop(2)
		checkNothing(t, d, "ab", api.ErrKeydirNone)
		checkTop(t, d, 0)
	}
	// of a Delete no body is longer than the key
	for _, text := range []string{"", body(gone(300, "a")), body(gone(300, "abc")), body(gone(300, "ab")) + "\x00", body(gone(301, "ab")), body(put(300, "ab", ""))} {
		d := added(t, bare(gone(300, "ab"), at(1, 0)), read(put(300, "ab", ""), at(2, 0)))
		checkSettle(t, d, at(1, 0), text, api.OK)
		checkCounts(t, d, read(put(300, "ab", ""), at(2, 0)))
	}
}

// Where rivals are forgotten, an elder record counts, or it is open which of the elder ones does.
func TestSettleLetsAnElderRecordCount(t *testing.T) {
	elder := read(put(4, "a", "elder"), at(3, 0))
	d := added(t, bare(put(5, "a", ""), at(1, 0)), bare(gone(5, "a"), at(1, 0)), elder)
	checkRivals(t, d, at(1, 0))
	checkSettle(t, d, at(1, 0), "no body", api.OK) // both rivals lie there
	checkCounts(t, d, elder)
	checkTop(t, d, 4)

	d = added(t, bare(put(5, "a", ""), at(1, 0)), bare(gone(5, "a"), at(1, 0)), bare(put(4, "a", ""), at(2, 0)), bare(put(4, "a", ""), at(3, 0)), bare(put(3, "a", ""), at(4, 0)))
	checkRivals(t, d, at(1, 0))
	checkSettle(t, d, at(1, 0), "no body", api.OK)
	checkNothing(t, d, "a", api.ErrKeydirOpen)
	checkRivals(t, d, at(2, 0), at(3, 0))
	checkSettle(t, d, at(2, 0), "no body", api.OK)
	checkCounts(t, d, bare(put(4, "a", ""), at(3, 0)))

	// nothing elder: nothing is known of the key
	d = added(t, bare(put(5, "a", ""), at(1, 0)), bare(gone(5, "a"), at(1, 0)))
	checkSettle(t, d, at(1, 0), "no body", api.OK)
	checkNothing(t, d, "a", api.ErrKeydirNone)
	checkTop(t, d, 0)
}

// One place, at which both kinds of a key were seen: one of them can fit.
func TestSettleOfTwoKindsAtOnePlace(t *testing.T) {
	for _, r := range []api.Record{put(5, "a", "x"), put(5, "a", ""), gone(5, "a")} {
		d := added(t, bare(put(5, "a", ""), at(1, 0)), bare(gone(5, "a"), at(1, 0)))
		checkNothing(t, d, "a", api.ErrKeydirOpen)
		checkRivals(t, d, at(1, 0))
		checkSettle(t, d, at(1, 0), body(r), api.OK)
		checkCounts(t, d, read(r, at(1, 0)))
		checkRivals(t, d)
	}
}

// All that is not Known at a place is settled, of any key, any LSN, whether it is a rival or not.
func TestSettleOfAPlaceOfSeveralKeys(t *testing.T) {
	here, there := at(1, 0), at(2, 0)
	l := []api.Seen{
		bare(put(5, "a", ""), here), bare(put(5, "a", ""), there), // open
		bare(put(5, "b", ""), here),                               // alone
		bare(put(5, "c", ""), here), read(put(6, "c", ""), there), // less
		bare(gone(5, "d"), here), bare(gone(5, "d"), there), // open, too
		bare(put(7, "e", ""), here), bare(put(8, "e", ""), here), read(put(3, "e", "elder"), there), // of two LSNs
		read(put(5, "f", "x"), here), read(put(5, "f", "y"), there), // Known
		bare(put(5, "g", ""), place(1, 0, 21)), // nearly there
	}
	keys := []string{"a", "b", "c", "d", "e", "f", "g"}
	for _, c := range []struct {
		text    string
		settled []api.Seen
	}{
		{body(put(5, "a", "v")), []api.Seen{read(put(5, "a", "v"), here)}},
		{body(put(5, "b", "")), []api.Seen{read(put(5, "b", ""), here)}},
		{body(put(5, "c", "v")), []api.Seen{read(put(5, "c", "v"), here)}},
		{body(gone(5, "d")), []api.Seen{read(gone(5, "d"), here)}},
		{body(put(7, "e", "v")), []api.Seen{read(put(7, "e", "v"), here)}},
		{body(put(8, "e", "v")), []api.Seen{read(put(8, "e", "v"), here)}},
		{body(put(5, "f", "zz")), nil}, // what is Known stays as it is
		{body(put(5, "g", "")), nil},
		{"", nil},
	} {
		d := added(t, l...)
		checkSettle(t, d, here, c.text, api.OK)
		left := slices.DeleteFunc(slices.Clone(l), func(s api.Seen) bool { return !s.Known && s.Place == here })
		checkAlike(t, d, &paper{append(left, c.settled...)}, keys...)
		checkSettle(t, d, here, c.text, api.ErrKeydirNone)
	}
}

// A place of which one key wants the body is settled for those that do not want it, too, and these are not open then.
func TestSettleOfAKeyThatWantsNothing(t *testing.T) {
	d := added(t, bare(put(5, "a", ""), at(1, 0)), bare(put(5, "a", ""), at(2, 0)), bare(put(9, "b", ""), at(1, 0)))
	checkCounts(t, d, bare(put(9, "b", ""), at(1, 0)))
	checkSettle(t, d, at(1, 0), body(put(9, "b", "x")), api.OK)
	checkCounts(t, d, read(put(9, "b", "x"), at(1, 0)))
	checkCounts(t, d, bare(put(5, "a", ""), at(2, 0)))
	checkRivals(t, d)
}

// What is settled can be taken in again: as what it became, it is known; if it was forgotten, it is new.
func TestAddOfWhatWasSettled(t *testing.T) {
	l := []api.Seen{bare(put(5, "a", ""), at(1, 0)), bare(put(5, "a", ""), at(2, 0))}
	d := added(t, l...)
	checkSettle(t, d, at(1, 0), body(put(5, "a", "x")), api.OK)
	add(t, d, l...)
	add(t, d, read(put(5, "a", "x"), at(1, 0)))
	checkRivals(t, d, at(2, 0))
	checkSettle(t, d, at(2, 0), "", api.OK)
	checkCounts(t, d, read(put(5, "a", "x"), at(1, 0)))
	add(t, d, l...)
	checkNothing(t, d, "a", api.ErrKeydirOpen)
	checkRivals(t, d, at(2, 0))
	checkSettle(t, d, at(2, 0), body(put(5, "a", "y")), api.OK)
	checkCounts(t, d, read(put(5, "a", "y"), at(2, 0)))
	// another body at the same place is another one
	add(t, d, read(put(5, "a", "z"), at(1, 0)))
	checkCounts(t, d, read(put(5, "a", "z"), at(1, 0)))
}

// What became Known by Add is settled no more.
func TestSettleOfWhatBecameKnown(t *testing.T) {
	d := added(t, bare(put(5, "a", ""), at(1, 0)), bare(put(5, "a", ""), at(2, 0)), bare(put(5, "b", ""), at(1, 0)), bare(put(5, "b", ""), at(3, 0)))
	add(t, d, read(put(5, "a", "x"), at(1, 0)))
	checkRivals(t, d, at(1, 0), at(2, 0), at(3, 0))
	checkSettle(t, d, at(1, 0), body(put(5, "a", "zzz")), api.OK) // b wants it
	checkRivals(t, d, at(2, 0))
	checkCounts(t, d, bare(put(5, "b", ""), at(3, 0)))
	checkSettle(t, d, at(2, 0), body(put(5, "a", "")), api.OK)
	checkCounts(t, d, read(put(5, "a", "x"), at(1, 0)))

	d = added(t, bare(put(5, "a", ""), at(1, 0)), bare(put(5, "a", ""), at(2, 0)))
	add(t, d, read(put(5, "a", "x"), at(1, 0)))
	checkSettle(t, d, at(1, 0), "", api.ErrKeydirNone)
	checkRivals(t, d, at(2, 0))
}
