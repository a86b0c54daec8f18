package keydir_test

import (
	"math"
	"strings"
	"testing"

	"salvor/api"
	"salvor/keydir"
)

// with is something that was seen, but for what turn makes of it.
func with(s api.Seen, turn func(s *api.Seen)) api.Seen {
	turn(&s)
	return s
}

// checkTaken holds that something is taken in, alone and beside others.
func checkTaken(t *testing.T, s api.Seen) {
	t.Helper()
	d := keydir.New()
	checkErrno(t, "Add", d.Add(s), api.OK)
	checkCounts(t, d, s)
	checkTop(t, d, s.LSN)
	d = keydir.New()
	checkErrno(t, "Add", d.Add(read(put(1, "other", ""), at(9, 9)), s), api.OK)
	checkCounts(t, d, s)
	if t.Failed() {
		t.Fatalf("of %+v", s)
	}
}

// checkRefused holds that Add of something is refused, wherever it stands among others, and that nothing is taken in then.
func checkRefused(t *testing.T, s api.Seen) {
	t.Helper()
	good, more := read(put(5, "good", "x"), at(1, 0)), bare(gone(7, "more"), at(2, 0))
	lists := [][]api.Seen{{s}, {s, good}, {good, s}, {good, s, more}, {good, more, s}, {s, good, s}, {s, s}}
	for _, l := range lists {
		d := keydir.New()
		checkErrno(t, "Add", d.Add(l...), api.ErrKeydirArg)
		if got, want := told(d, "good", "more", "a", s.Key), told(&paper{}, "good", "more", "a", s.Key); got != want {
			t.Errorf("it tells\n%s\nwant\n%s", got, want)
		}
		// nor is what was known changed, nor what comes later refused
		add(t, d, read(put(1, "good", ""), at(1, 0)), bare(put(5, "a", ""), at(3, 0)))
		checkErrno(t, "Add", d.Add(l...), api.ErrKeydirArg)
		checkCounts(t, d, read(put(1, "good", ""), at(1, 0)))
		checkCounts(t, d, bare(put(5, "a", ""), at(3, 0)))
		checkTop(t, d, 5)
		checkRivals(t, d)
		if t.Failed() {
			t.Fatalf("of %+v", l)
		}
	}
}

func TestAddOfNothing(t *testing.T) {
	d := keydir.New()
	checkErrno(t, "Add", d.Add(), api.OK)
	checkErrno(t, "Add", d.Add([]api.Seen{}...), api.OK)
	checkTop(t, d, 0)
	checkKeys(t, d)
	checkRivals(t, d)
	checkNothing(t, d, "", api.ErrKeydirNone)
	checkNothing(t, d, "a", api.ErrKeydirNone)
}

// What may be seen, at its edges: Known and not, of a Put and of a Delete.
func TestAddOfWhatMayBeSeen(t *testing.T) {
	for _, key := range []string{"a", "\x00", "\xa7", "\xff", strings.Repeat("k", 63), strings.Repeat("\xa6", 64)} {
		for _, lsn := range []uint64{1, 2, 127, 128, 1 << 63, greatest} {
			for _, r := range []api.Record{put(lsn, key, ""), put(lsn, key, "v"), put(lsn, key, "\xa7\x00"), put(lsn, key, strings.Repeat("v", 2047)), put(lsn, key, strings.Repeat("\xa7", 2048)), gone(lsn, key)} {
				for _, p := range []api.Place{{Segment: 1, At: 0, Len: 1}, {Segment: 1, At: 1, Len: 2}, {Segment: math.MaxUint32, At: math.MaxInt, Len: math.MaxInt}} {
					checkTaken(t, read(r, p))
					checkTaken(t, bare(r, p))
				}
			}
		}
	}
}

func TestAddOfWhatMayNotBeSeen(t *testing.T) {
	for _, s := range []api.Seen{
		read(put(5, "a", "x"), at(1, 0)), read(put(5, "a", ""), at(1, 0)), read(gone(5, "a"), at(1, 0)), bare(put(5, "a", ""), at(1, 0)), bare(gone(5, "a"), at(1, 0)),
	} {
		checkTaken(t, s)
		for _, turn := range []func(s *api.Seen){
			func(s *api.Seen) { s.Key = "" },
			func(s *api.Seen) { s.Key = strings.Repeat("a", 65) },
			func(s *api.Seen) { s.Key = strings.Repeat("a", 5000) },
			func(s *api.Seen) { s.LSN = 0 },
			func(s *api.Seen) { s.Kind = 0 },
			func(s *api.Seen) { s.Kind = api.Hint },
			func(s *api.Seen) { s.Kind = api.Foot },
			func(s *api.Seen) { s.Kind = 5 },
			func(s *api.Seen) { s.Kind = -1 },
			func(s *api.Seen) { s.Kind += 256 },
			func(s *api.Seen) { s.Kind = math.MinInt },
			func(s *api.Seen) { s.Place.Segment = 0 },
			func(s *api.Seen) { s.Place.At = -1 },
			func(s *api.Seen) { s.Place.At = math.MinInt },
			func(s *api.Seen) { s.Place.Len = 0 },
			func(s *api.Seen) { s.Place.Len = -1 },
			func(s *api.Seen) { s.Place.Len = math.MinInt },
			func(s *api.Seen) { s.Place = api.Place{} },
			func(s *api.Seen) { s.Known = !s.Known }, // with a body beside it, or without
		} {
			checkRefused(t, with(s, turn))
		}
	}
	checkRefused(t, api.Seen{})
}

// What is wrong is told of keys and numbers that are so in the body, too.
func TestAddOfBodiesOfWhatMayNotBe(t *testing.T) {
	long := strings.Repeat("k", 65)
	for _, r := range []api.Record{
		put(0, "a", "x"), gone(0, "a"), put(5, "", "x"), gone(5, ""), put(5, long, "x"), gone(5, long), {LSN: 5, Kind: api.Hint, Key: "a"}, {LSN: 5, Kind: api.Foot, Key: "a"},
	} {
		checkRefused(t, read(r, at(1, 0)))
		checkRefused(t, bare(r, at(1, 0)))
	}
	// the frames of these kinds have bodies of their own
	checkRefused(t, api.Seen{Key: "a", LSN: 5, Kind: api.Hint, Place: at(1, 0), Known: true, Body: "\x03\x05\x01\x00\x14a"})
	checkRefused(t, api.Seen{Kind: api.Foot, Place: at(1, 0), Known: true, Body: "\x04\x00\x00\x00\x00"})
}

// A Known one has the body of a record of this key, LSN and kind, and no other.
func TestAddOfBodiesThatDoNotFit(t *testing.T) {
	aPut, aDelete := read(put(300, "ab", "xyz"), at(1, 0)), read(gone(300, "ab"), at(1, 0))
	checkTaken(t, aPut)
	checkTaken(t, aDelete)
	for _, text := range []string{
		"", "a", "\x00", "\x01", "\x02", "\x01\xac", "\x01\xac\x02", "\x01\xac\x02\x02", "\x01\xac\x02\x02a", // of no record: cut off ahead of the key's end
		body(put(301, "ab", "xyz")), body(put(44, "ab", "xyz")), body(put(1, "ab", "xyz")), // of another number
		body(put(300, "ac", "xyz")), body(put(300, "a", "bxyz")), body(put(300, "abx", "yz")), body(put(300, "", "abxyz")), // of another key
		body(gone(300, "ab")), body(gone(300, "abxyz")), body(gone(300, "\x02abxyz")), // of another kind
		"\x03" + body(put(300, "ab", "xyz"))[1:], "\x00" + body(put(300, "ab", "xyz"))[1:], "\x81" + body(put(300, "ab", "xyz"))[1:],
		"\x01\xac\x82\x00\x02abxyz", "\x01\xac\x02\x82\x00abxyz", // numbers that are written in another way
		" " + body(put(300, "ab", "xyz")), body(put(300, "ab", "xyz"))[1:],
		body(put(300, "ab", strings.Repeat("v", 2049))), body(put(300, "ab", strings.Repeat("v", 5000))), // of more than a value may have
	} {
		checkRefused(t, with(aPut, func(s *api.Seen) { s.Body = text }))
	}
	for _, text := range []string{
		"", "\x02", "\x02\xac", "\x02\xac\x02", "\x02\xac\x02a", "\x02\xac\x02abc", "\x02\xac\x02ab\x00", "\x02\xac\x02\x02ab", "\x02\xac\x82\x00ab",
		body(gone(301, "ab")), body(gone(300, "ac")), body(gone(300, "abxyz")), body(put(300, "ab", "")), body(put(300, "ab", "xyz")), "\x03\xac\x02ab", " " + body(gone(300, "ab")),
	} {
		checkRefused(t, with(aDelete, func(s *api.Seen) { s.Body = text }))
	}
	// any value is one, also what looks like more than that
	for _, value := range []string{"", "\x00", "ab", body(put(300, "ab", "xyz")), strings.Repeat("v", 2048)} {
		checkTaken(t, read(put(300, "ab", value), at(1, 0)))
	}
}

// Whatever may not be seen keeps all others of the call out, and none of those of other calls.
func TestOneBadThingAmongMany(t *testing.T) {
	r := source()
	for range 300 {
		l := someSeen(r, 20)
		d, p := keydir.New(), &paper{}
		add(t, d, l[:10]...)
		p.Add(l[:10]...)
		bad := l[10:]
		i := r.Intn(len(bad))
		bad[i] = with(bad[i], pick(r,
			func(s *api.Seen) { s.Key = "" }, func(s *api.Seen) { s.LSN = 0 }, func(s *api.Seen) { s.Kind = 3 }, func(s *api.Seen) { s.Body += strings.Repeat("\x00", 2049) },
			func(s *api.Seen) { s.Place.Segment = 0 }, func(s *api.Seen) { s.Place.At = -1 }, func(s *api.Seen) { s.Place.Len = 0 }, func(s *api.Seen) { s.Known = !s.Known }))
		checkErrno(t, "Add", d.Add(bad...), api.ErrKeydirArg)
		if !checkAlike(t, d, p, someKeys...) {
			t.Fatalf("behind Add(%v)", bad)
		}
	}
}

// A directory of one thing takes it in just if it may be seen.
func TestAddIsWhatTheWordsSay(t *testing.T) {
	r := source()
	taken := 0
	for range 30000 {
		s := with(anySeen(r), pick(r,
			func(s *api.Seen) {}, func(s *api.Seen) { s.Body = body(anyRecord(r)) }, func(s *api.Seen) { s.Body += pick(r, "a", "\x00") },
			func(s *api.Seen) { s.Key = pick(r, someKeys...) }, func(s *api.Seen) { s.LSN = anyLSN(r) }, func(s *api.Seen) { s.Kind = api.Kind(r.Intn(5)) },
			func(s *api.Seen) { s.Known = !s.Known }, func(s *api.Seen) { s.Place.At -= 1 }, func(s *api.Seen) { s.Place.Len -= 1 }, func(s *api.Seen) { s.Place.Segment -= 1 }))
		if mayBeSeen(s) {
			taken++
			checkTaken(t, s)
		} else if errno := keydir.New().Add(s); errno != api.ErrKeydirArg {
			t.Fatalf("Add(%+v) = %d", s, errno)
		}
	}
	if taken < 5000 || taken > 25000 {
		t.Errorf("%d were taken in", taken)
	}
}
