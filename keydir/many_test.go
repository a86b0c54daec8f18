package keydir_test

import (
	"slices"
	"strconv"
	"testing"

	"salvor/api"
	"salvor/keydir"
)

// Two copies of very many records: all of them are wanted, and settled one by one.
func TestManyKeys(t *testing.T) {
	const count = 60000
	var l []api.Seen
	for i := range count {
		r := put(uint64(i+1), strconv.Itoa(i), "")
		l = append(l, bare(r, at(1, 20*i)), bare(r, at(2, 20*i)))
	}
	d := added(t, l...)
	checkTop(t, d, count)
	checkKeys(t, d)
	wanted := d.Rivals()
	if len(wanted) != 2*count {
		t.Fatalf("%d are wanted", len(wanted))
	}
	for _, p := range wanted {
		i := p.At / 20
		if errno := d.Settle(p, body(put(uint64(i+1), strconv.Itoa(i), "v"))); errno != api.OK {
			t.Fatalf("Settle(%v) = %d", p, errno)
		}
	}
	checkRivals(t, d)
	if keys := d.Keys(); len(keys) != count || !slices.IsSorted(keys) {
		t.Errorf("%d keys", len(keys))
	}
	for s := range d.All() {
		if s.Place.Segment != 1 || !s.Known {
			t.Fatalf("All tells %v", s)
		}
	}
	other := keydir.New()
	other.Join(d)
	other.Drop(1)
	checkCounts(t, other, read(put(1, "0", "v"), at(2, 0)))
	if len(other.Keys()) != count {
		t.Errorf("%d keys", len(other.Keys()))
	}
}

// Very many records of one key, in one call and in many, upwards and downwards.
func TestManyRecordsOfOneKey(t *testing.T) {
	const count = 60000
	var up []api.Seen
	for i := range count {
		up = append(up, read(put(uint64(i+1), "k", strconv.Itoa(i)), at(1, i)))
	}
	down := slices.Clone(up)
	slices.Reverse(down)
	one := keydir.New()
	for i, s := range up {
		add(t, one, s)
		if got, errno := one.Get("k"); got != s || errno != api.OK {
			t.Fatalf("behind %d: %v, %d", i, got, errno)
		}
	}
	for _, d := range []*keydir.Dir{one, added(t, up...), added(t, down...)} {
		checkCounts(t, d, up[count-1])
		add(t, d, down...)
		checkCounts(t, d, up[count-1])
		d.Drop(1)
		checkNothing(t, d, "k", api.ErrKeydirNone)
	}
}

// Very many copies of one record, none of them Known.
func TestManyCopiesOfOneRecord(t *testing.T) {
	const count = 60000
	r := put(7, "k", "v")
	var l []api.Seen
	for i := range count {
		l = append(l, bare(r, at(uint32(i%7+1), i)))
	}
	d := added(t, l...)
	checkNothing(t, d, "k", api.ErrKeydirOpen)
	wanted := d.Rivals()
	if len(wanted) != count {
		t.Fatalf("%d are wanted", len(wanted))
	}
	for _, p := range wanted {
		if errno := d.Settle(p, body(r)); errno != api.OK {
			t.Fatalf("Settle(%v) = %d", p, errno)
		}
	}
	checkCounts(t, d, read(r, at(1, 0)))
	checkRivals(t, d)
	checkSettle(t, d, at(1, 0), body(r), api.ErrKeydirNone)
}
