package scan_test

import (
	"math"
	"slices"
	"testing"

	"salvor/api"
	"salvor/scan"
)

func checkRecords(t *testing.T, b []byte, kinds []api.Kind, want ...api.Located) {
	t.Helper()
	if got := scan.Records(b, kinds...); !slices.Equal(got, want) {
		t.Errorf("Records(%x, %v) = %v, want %v", b, kinds, got, want)
	}
}

// kindRow is bytes with two frames of each kind, junk between them; and these frames.
func kindRow() ([]byte, map[api.Kind][]api.Located) {
	b := ""
	l := map[api.Kind][]api.Located{}
	for _, f := range append(ofEachKind(), foot(0, 0, 0, 0), hint(1, api.Put, 0, 1, "k"), gone(5, "k"), put(9, "key", "")) {
		b += "-" + lead
		l[f.Kind] = append(l[f.Kind], api.Located{Frame: f, At: len(b), Len: len(whole(f))})
		b += whole(f)
	}
	return []byte(b), l
}

// byPlace lays lists of frames together, as they stand.
func byPlace(l ...[]api.Located) []api.Located {
	all := slices.Concat(l...)
	slices.SortFunc(all, func(a, b api.Located) int { return a.At - b.At })
	return all
}

func TestRecordsOfNoKindArePutsAndDeletes(t *testing.T) {
	b, of := kindRow()
	want := byPlace(of[api.Put], of[api.Delete])
	checkRecords(t, b, nil, want...)
	checkRecords(t, b, []api.Kind{}, want...)
	checkRecords(t, b, []api.Kind{api.Hint, api.Foot}[:0], want...) // what stands in the spare room names nothing
	if got := scan.Records(b); !slices.Equal(got, want) {
		t.Errorf("Records(%x) = %v, want %v", b, got, want)
	}
}

func TestRecordsOfEachKind(t *testing.T) {
	b, of := kindRow()
	for kind := api.Put; kind <= api.Foot; kind++ {
		if len(of[kind]) != 2 {
			t.Fatalf("%d of the kind %d", len(of[kind]), kind)
		}
		checkRecords(t, b, []api.Kind{kind}, of[kind]...)
	}
	checkRecords(t, []byte("x"+small), []api.Kind{api.Put}, api.Located{Frame: put(1, "k", "v"), At: 1, Len: 14})
}

func TestRecordsOfSeveralKinds(t *testing.T) {
	b, of := kindRow()
	for some := 1; some < 16; some++ {
		var kinds, back []api.Kind
		var lists [][]api.Located
		for kind := api.Put; kind <= api.Foot; kind++ {
			if some>>(kind-1)&1 == 1 {
				kinds = append(kinds, kind)
				lists = append(lists, of[kind])
			}
		}
		want := byPlace(lists...)
		checkRecords(t, b, kinds, want...)
		back = slices.Clone(kinds)
		slices.Reverse(back)
		checkRecords(t, b, back, want...)
		checkRecords(t, b, slices.Concat(kinds, back, kinds), want...)                  // each of them more than once
		checkRecords(t, b, slices.Concat([]api.Kind{0}, kinds, []api.Kind{9}), want...) // those that are none beside them
	}
}

func TestRecordsOfAKindTwice(t *testing.T) {
	b, of := kindRow()
	for kind := api.Put; kind <= api.Foot; kind++ {
		checkRecords(t, b, []api.Kind{kind, kind}, of[kind]...)
		checkRecords(t, b, slices.Repeat([]api.Kind{kind}, 1000), of[kind]...)
	}
}

func TestRecordsOfAKindThatIsNone(t *testing.T) {
	b, of := kindRow()
	for _, kind := range []api.Kind{0, -1, 5, 6, 127, 255, 256, 257, 1 << 32, 1<<32 + 1, math.MinInt, math.MinInt + 1, math.MaxInt} {
		checkRecords(t, b, []api.Kind{kind})
		checkRecords(t, b, []api.Kind{kind, kind})
		checkRecords(t, b, []api.Kind{kind, api.Hint}, of[api.Hint]...)
		checkRecords(t, b, []api.Kind{api.Hint, kind}, of[api.Hint]...)
	}
}

func TestRecordsOfNothing(t *testing.T) {
	for _, b := range [][]byte{nil, {}, []byte(small)[:0], []byte(small)[:13], []byte("junk"), []byte(lead), []byte(framed("ab"))} {
		checkRecords(t, b, nil)
		checkRecords(t, b, []api.Kind{api.Put, api.Delete, api.Hint, api.Foot})
	}
}

func TestRecordsAreWhatTheWordsSay(t *testing.T) {
	r := source()
	for _, b := range some() {
		checkRecords(t, b, nil, recordsByWords(b, nil)...)
		for range 4 {
			kinds := make([]api.Kind, r.Intn(4))
			for i := range kinds {
				kinds[i] = api.Kind(r.Intn(7) - 1)
			}
			checkRecords(t, b, kinds, recordsByWords(b, kinds)...)
		}
	}
}
