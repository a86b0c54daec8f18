package frame_test

import (
	"math/rand"
	"strings"
	"testing"

	"salvor/api"
	"salvor/frame"
)

func checkCompare(t *testing.T, a, b api.Record, want int) {
	t.Helper()
	if got := frame.Compare(a, b); got != want {
		t.Fatalf("Compare(%#v, %#v) = %d, want %d", a, b, got, want)
	}
	if got := frame.Compare(b, a); got != -want {
		t.Fatalf("Compare(%#v, %#v) = %d, want %d", b, a, got, -want)
	}
}

func compareByWords(a, b api.Record) int {
	mayA, mayB := refusedByWords(api.Frame{Kind: a.Kind, Record: a}) == api.OK, refusedByWords(api.Frame{Kind: b.Kind, Record: b}) == api.OK
	bodyA := string(bodyByWords(api.Frame{Kind: a.Kind, Record: a}))
	bodyB := string(bodyByWords(api.Frame{Kind: b.Kind, Record: b}))
	switch {
	case !mayA && !mayB:
		return 0
	case !mayA:
		return -1
	case !mayB:
		return 1
	case a.LSN < b.LSN:
		return -1
	case a.LSN > b.LSN:
		return 1
	}
	return strings.Compare(bodyA, bodyB)
}

// ascending are records each of which is less than all behind it.
func ascending() []api.Record {
	long := strings.Repeat("\xa7", 2048)
	frames := []api.Frame{
		gone(0, "k"), // may not be
		put(1, "a", ""), put(1, "a", "\x00"), put(1, "a", "v"), put(1, "a", "v\x00"), put(1, "a", "vv"), put(1, "a", "w"),
		put(1, "a", "\xa6\xa6"), put(1, "a", "\xa7"), put(1, "a", long), put(1, "a", "\xa8"), put(1, "a", "\xff"),
		put(1, "b", ""), put(1, "\xff", ""), put(1, "aa", ""), put(1, "aaa", ""), put(1, strings.Repeat("a", 64), ""),
		gone(1, "\x00"), gone(1, "a"), gone(1, "aa"), gone(1, "b"), gone(1, "\xff"),
		put(2, "a", ""), gone(127, "a"),
		// by their numbers: as varints they are 80 01, ff 01, 80 02, ac 02
		put(128, "a", ""), put(255, "a", ""), put(256, "a", ""), put(300, "a", ""),
		gone(1<<63-1, "a"), put(1<<63, "a", ""), put(1<<64-2, "a", ""), put(1<<64-1, "a", ""), gone(1<<64-1, "a"),
	}
	l := make([]api.Record, len(frames))
	for i, f := range frames {
		l[i] = f.Record
	}
	return l
}

func TestCompareKnownRecords(t *testing.T) {
	l := ascending()
	for i, a := range l {
		checkCompare(t, a, a, 0)
		for _, b := range l[i+1:] {
			checkCompare(t, a, b, -1)
		}
	}
}

func mayNotBe() []api.Record {
	return []api.Record{
		{}, {Kind: api.Put}, {LSN: 1, Key: "k"}, {LSN: 0, Kind: api.Put, Key: "k"}, {LSN: 1, Kind: api.Put},
		{LSN: 1<<64 - 1, Kind: api.Hint, Key: "k"}, {LSN: 1, Kind: api.Foot, Key: "k"}, {LSN: 1, Kind: 257, Key: "k"}, {LSN: 1, Kind: -1, Key: "k"},
		{LSN: 9, Kind: api.Delete, Key: "k", Value: "v"}, {LSN: 9, Kind: api.Delete, Key: strings.Repeat("k", 65)},
		{LSN: 1<<64 - 1, Kind: api.Put, Key: "k", Value: strings.Repeat("v", 2049)}, {Kind: api.Foot}, {Kind: api.Hint},
	}
}

func TestCompareRecordsThatMayNotBe(t *testing.T) {
	for _, a := range mayNotBe() {
		for _, b := range mayNotBe() {
			checkCompare(t, a, b, 0)
		}
		for _, b := range ascending()[1:] {
			checkCompare(t, a, b, -1)
		}
	}
}

// anyRecord is one of few, so that two are often alike or nearly so; some may not be.
func anyRecord(r *rand.Rand) api.Record {
	keys := []string{"a", "b", "aa", "ab", "\xa7", "\xff", strings.Repeat("a", 64)}
	values := []string{"", "a", "aa", "\x00", "\xa6", "\xa7", "\xff", strings.Repeat("a", 2048)}
	switch r.Intn(12) {
	case 0:
		return pick(r, mayNotBe()...)
	case 1:
		return pick(r, anyFrame(r), put(anyLSN(r), anyKey(r), "")).Record
	}
	rec := api.Record{LSN: pick[uint64](r, 1, 2, 128, 256, 257, 300), Kind: pick(r, api.Put, api.Put, api.Delete), Key: pick(r, keys...)}
	if rec.Kind == api.Put {
		rec.Value = pick(r, values...)
	}
	return rec
}

func TestCompareIsWhatTheWordsSay(t *testing.T) {
	r := source()
	told := map[int]int{}
	for range 30000 {
		a, b := anyRecord(r), anyRecord(r)
		want := compareByWords(a, b)
		told[want]++
		checkCompare(t, a, b, want)
	}
	if told[-1] < 1000 || told[0] < 100 || told[1] < 1000 {
		t.Fatalf("how often each was the answer: %v", told)
	}
}

func TestCompareIsAnOrder(t *testing.T) {
	r := source()
	for range 20000 {
		a, b, c := anyRecord(r), anyRecord(r), anyRecord(r)
		ab, bc, ac := frame.Compare(a, b), frame.Compare(b, c), frame.Compare(a, c)
		if ab <= 0 && bc <= 0 && (ac > 0 || ac == 0 && (ab < 0 || bc < 0)) {
			t.Fatalf("Compare of %#v, %#v, %#v: %d, %d, but %d", a, b, c, ab, bc, ac)
		}
	}
}

// Two are alike just if they are the same, or may both not be.
func TestCompareTellsApart(t *testing.T) {
	r := source()
	for range 30000 {
		a, b := anyRecord(r), anyRecord(r)
		_, errnoA := frame.Encode(frame.Of(a))
		_, errnoB := frame.Encode(frame.Of(b))
		want := a == b || errnoA != api.OK && errnoB != api.OK
		if got := frame.Compare(a, b); (got == 0) != want {
			t.Fatalf("Compare(%#v, %#v) = %d", a, b, got)
		}
	}
}
