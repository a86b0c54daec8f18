package keydir_test

import (
	"math/rand"
	"slices"
	"testing"

	"salvor/api"
	"salvor/keydir"
)

// someOf hands over a list in pieces, one behind the other.
func someOf(r *rand.Rand, l []api.Seen, look func(l []api.Seen)) {
	for len(l) > 0 {
		n := 1 + r.Intn(len(l))
		look(l[:n])
		l = l[n:]
	}
}

// scattered has a list taken in by several directories, each a piece of it, that are joined in the end.
func scattered(t *testing.T, r *rand.Rand, l []api.Seen) *keydir.Dir {
	t.Helper()
	dirs := []*keydir.Dir{keydir.New(), keydir.New(), keydir.New()}
	someOf(r, l, func(some []api.Seen) { add(t, pick(r, dirs...), some...) })
	switch r.Intn(3) {
	case 0: // one by one
		dirs[0].Join(dirs[1])
		dirs[0].Join(dirs[2], dirs[0])
	case 1: // by another one
		dirs[2].Join(dirs[1], nil)
		dirs[0].Join(dirs[2])
	default:
		dirs[0].Join(dirs[2], dirs[1], dirs[2])
	}
	return dirs[0]
}

// The order in which things are taken in, and whether twice, does not matter: in one call or in several, in one directory or in others that are joined.
func TestNeitherOrderNorNumberMatters(t *testing.T) {
	r := source()
	for range 400 {
		l := someSeen(r, r.Intn(20))
		d := added(t, l...)
		want := told(d, someKeys...)
		checkAlike(t, d, &paper{l}, someKeys...)
		for range 6 {
			more := slices.Clone(l)
			for range r.Intn(2*len(l) + 1) {
				more = append(more, pick(r, l...))
			}
			r.Shuffle(len(more), func(i, k int) { more[i], more[k] = more[k], more[i] })
			several := keydir.New()
			someOf(r, more, func(some []api.Seen) {
				add(t, several, some...)
				told(several, someKeys...) // whoever looks changes nothing
			})
			for what, other := range map[string]*keydir.Dir{"in one call": added(t, more...), "in several": several, "joined": scattered(t, r, more)} {
				if got := told(other, someKeys...); got != want {
					t.Fatalf("%v %s comes to\n%s\nbut %v to\n%s", more, what, got, l, want)
				}
			}
		}
	}
}

// Not what is told alone: what is forgotten later comes to the same, too.
func TestOrderDoesNotMatterForWhatComesLater(t *testing.T) {
	r := source()
	for range 500 {
		l := someSeen(r, 1+r.Intn(15))
		d := added(t, l...)
		more := append(slices.Clone(l), l...)
		r.Shuffle(len(more), func(i, k int) { more[i], more[k] = more[k], more[i] })
		e := scattered(t, r, more)
		for range 10 {
			switch r.Intn(3) {
			case 0:
				segment := uint32(1 + r.Intn(3))
				d.Drop(segment)
				e.Drop(segment)
			default:
				if wanted := d.Rivals(); len(wanted) > 0 {
					p, text := pick(r, wanted...), body(anyRecord(r))
					if i := slices.IndexFunc(l, func(s api.Seen) bool { return !s.Known && s.Place == p }); r.Intn(3) > 0 && i >= 0 {
						text = body(api.Record{LSN: l[i].LSN, Kind: l[i].Kind, Key: l[i].Key}) // which fits
					}
					checkSettle(t, d, p, text, api.OK)
					checkSettle(t, e, p, text, api.OK)
				}
			}
			if got, want := told(e, someKeys...), told(d, someKeys...); got != want {
				t.Fatalf("of %v and %v: it tells\n%s\nwant\n%s", l, more, got, want)
			}
		}
	}
}

func TestEveryOrderOfFew(t *testing.T) {
	for _, l := range [][]api.Seen{
		{bare(put(5, "a", ""), at(1, 0)), read(put(5, "a", "x"), at(1, 0)), read(put(5, "a", "y"), at(1, 0)), bare(put(5, "a", ""), at(2, 0)), read(put(4, "a", ""), at(1, 0))},
		{read(put(5, "a", "x"), at(2, 0)), read(put(5, "a", "x"), at(1, 9)), read(put(5, "a", "xx"), at(3, 0)), read(gone(5, "a"), at(4, 0)), read(gone(5, "a"), at(4, 0))},
		{bare(gone(5, "a"), at(1, 0)), bare(put(5, "a", ""), at(1, 0)), read(gone(5, "a"), at(1, 0)), bare(put(5, "b", ""), at(1, 0)), read(put(6, "b", ""), at(1, 0))},
		{bare(put(1, "a", ""), at(1, 0)), bare(put(2, "a", ""), at(1, 0)), bare(put(2, "a", ""), at(2, 0)), bare(gone(3, "a"), at(3, 0)), read(put(3, "a", "x"), at(1, 0))},
	} {
		p := &paper{l}
		inEveryOrder(l, func(l []api.Seen) {
			for cut := range len(l) + 1 {
				checkAlike(t, added(t, l...), p, "a", "b")
				d, e := added(t, l[:cut]...), added(t, l[cut:]...)
				d.Join(e)
				checkAlike(t, d, p, "a", "b")
				e.Add(l[:cut]...)
				checkAlike(t, e, p, "a", "b")
				one := keydir.New()
				for _, s := range l {
					add(t, one, s)
				}
				checkAlike(t, one, p, "a", "b")
			}
		})
	}
}

// A directory that was told places first, and bodies when it wanted them, tells in the end what one tells that was told all at once.
func TestToldLateIsToldAtOnce(t *testing.T) {
	r := source()
	settled := 0
	for range 2000 {
		// what stands at each place is one record
		stands := map[api.Place]api.Record{}
		for range r.Intn(25) {
			stands[anyPlace(r)] = anyRecord(r)
		}
		var atOnce, late []api.Seen
		for p, record := range stands {
			atOnce = append(atOnce, read(record, p))
			late = append(late, pick(r, bare, bare, bare, read)(record, p))
		}
		d, e := added(t, atOnce...), added(t, late...)
		for wanted := e.Rivals(); len(wanted) > 0; wanted = e.Rivals() {
			p := pick(r, wanted...)
			checkSettle(t, e, p, body(stands[p]), api.OK)
			settled++
		}
		for _, key := range someKeys {
			want, wantErrno := d.Last(key)
			got, gotErrno := e.Last(key)
			if !got.Known {
				want.Known, want.Body = false, ""
			}
			if got != want || gotErrno != wantErrno {
				t.Fatalf("of %v Last(%q) = %v, %d, at once %v, %d", late, key, got, gotErrno, want, wantErrno)
			}
		}
		if !slices.Equal(d.Keys(), e.Keys()) || d.Top() != e.Top() {
			t.Fatalf("of %v Keys() = %q, Top() = %d; at once %q, %d", late, e.Keys(), e.Top(), d.Keys(), d.Top())
		}
	}
	if settled < 1000 {
		t.Errorf("%d were settled", settled)
	}
}

// A directory of Known records tells what Fold tells of them, wherever they stand.
func TestADirectoryTellsWhatFoldTells(t *testing.T) {
	r := source()
	for range 2000 {
		var records []api.Record
		var l []api.Seen
		for range r.Intn(15) {
			records = append(records, anyRecord(r))
			l = append(l, read(records[len(records)-1], anyPlace(r)))
		}
		d := added(t, l...)
		folded := keydir.Fold(records...)
		for _, record := range folded {
			if s, errno := d.Last(record.Key); errno != api.OK || s.Body != body(record) {
				t.Fatalf("of %v Last(%q) = %v, %d, want %v", l, record.Key, s, errno, record)
			}
		}
		var live []string
		for _, pair := range keydir.Live(records...) {
			live = append(live, pair.Key)
		}
		if !slices.Equal(d.Keys(), live) {
			t.Fatalf("of %v Keys() = %q, want %q", l, d.Keys(), live)
		}
	}
}

func TestFoldOfFold(t *testing.T) {
	r := source()
	for range 3000 {
		l, m := anyRecords(r, 12), anyRecords(r, 12)
		foldedL, foldedM := keydir.Fold(l...), keydir.Fold(m...)
		if got := keydir.Fold(foldedL...); !slices.Equal(got, foldedL) {
			t.Fatalf("Fold of Fold(%v) = %v", l, got)
		}
		both := keydir.Fold(slices.Concat(l, m)...)
		for _, got := range [][]api.Record{keydir.Fold(slices.Concat(foldedL, foldedM)...), keydir.Fold(slices.Concat(foldedM, foldedL)...), keydir.Fold(slices.Concat(foldedL, m)...), keydir.Fold(slices.Concat(m, m, l)...)} {
			if !slices.Equal(got, both) {
				t.Fatalf("of %v and %v: %v, want %v", l, m, got, both)
			}
		}
		if got := keydir.Live(both...); !slices.Equal(got, keydir.Live(slices.Concat(l, m)...)) {
			t.Fatalf("of %v and %v: Live tells %v of their Fold", l, m, got)
		}
		r.Shuffle(len(l), func(i, k int) { l[i], l[k] = l[k], l[i] })
		if got := keydir.Fold(l...); !slices.Equal(got, foldedL) {
			t.Fatalf("Fold(%v) = %v, in another order %v", l, got, foldedL)
		}
	}
}

// What lay in segments that were dropped is as if it had never been taken in: now, and for all that comes later.
func TestDroppedIsAsIfNeverTakenIn(t *testing.T) {
	r := source()
	for range 1500 {
		l := someSeen(r, r.Intn(20))
		var dropped []uint32
		for range r.Intn(4) {
			dropped = append(dropped, uint32(r.Intn(5)))
		}
		left := slices.DeleteFunc(slices.Clone(l), func(s api.Seen) bool { return slices.Contains(dropped, s.Place.Segment) })
		d, e := added(t, l...), added(t, left...)
		d.Drop(dropped...)
		later := someSeen(r, r.Intn(10))
		for range 2 {
			if got, want := told(d, someKeys...), told(e, someKeys...); got != want {
				t.Fatalf("of %v without %v it tells\n%s\nwant\n%s", l, dropped, got, want)
			}
			add(t, d, later...)
			add(t, e, later...)
		}
		d.Drop(1, 2, 3)
		if got, want := told(d, someKeys...), told(keydir.New(), someKeys...); got != want {
			t.Fatalf("of %v without any it tells\n%s", l, got)
		}
	}
}
