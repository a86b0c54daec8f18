package keydir_test

import (
	"slices"
	"strings"
	"testing"

	"salvor/api"
	"salvor/keydir"
)

func checkFold(t *testing.T, l []api.Record, want ...api.Record) {
	t.Helper()
	if got := keydir.Fold(l...); !slices.Equal(got, want) {
		t.Errorf("Fold(%v) = %v, want %v", l, got, want)
	}
	var live []api.Pair
	for _, r := range want {
		if r.Kind == api.Put {
			live = append(live, api.Pair{Key: r.Key, Value: r.Value})
		}
	}
	if got := keydir.Live(l...); !slices.Equal(got, live) {
		t.Errorf("Live(%v) = %v, want %v", l, got, live)
	}
}

// mayNotBe are records of the key k that are none.
func mayNotBe() []api.Record {
	return []api.Record{
		{}, {Key: "k"}, put(0, "k", ""), gone(0, "k"), put(0, "k", "v"), put(9, "", "v"), gone(9, ""),
		put(9, strings.Repeat("k", 65), ""), gone(9, strings.Repeat("k", 65)), put(9, strings.Repeat("k", 1000), ""),
		put(9, "k", strings.Repeat("v", 2049)), {LSN: 9, Kind: api.Delete, Key: "k", Value: "v"},
		{LSN: 9, Key: "k"}, {LSN: 9, Kind: api.Hint, Key: "k"}, {LSN: 9, Kind: api.Foot, Key: "k"}, {LSN: 9, Kind: -1, Key: "k"}, {LSN: 9, Kind: 5, Key: "k"}, {LSN: 9, Kind: 257, Key: "k"}, {LSN: 9, Kind: 258, Key: "k"},
		{Kind: api.Hint}, {Kind: api.Foot}, {LSN: greatest, Kind: api.Foot},
	}
}

func TestFoldOfNothing(t *testing.T) {
	checkFold(t, nil)
	checkFold(t, []api.Record{})
	checkFold(t, mayNotBe())
}

// The greatest number counts, wherever it stands; of several records with it the greatest body.
func TestFoldOfOneKey(t *testing.T) {
	long := strings.Repeat("a", 2048)
	ascending := []api.Record{
		put(1, "k", ""), put(1, "k", "\x00"), put(1, "k", "a"), put(1, "k", "a\x00"), put(1, "k", "aa"), put(1, "k", long), put(1, "k", "b"), put(1, "k", "\xff"), gone(1, "k"),
		gone(2, "k"), put(3, "k", ""), put(127, "k", ""), gone(127, "k"),
		// these are 80 01, ff 01, 80 02, 81 02 as they stand in bodies
		put(128, "k", "zz"), put(255, "k", "z"), put(256, "k", ""), put(257, "k", ""), gone(1<<63-1, "k"), put(1<<63, "k", ""), gone(greatest-1, "k"), put(greatest, "k", ""), gone(greatest, "k"),
	}
	for i, less := range ascending {
		checkFold(t, []api.Record{less}, less)
		checkFold(t, []api.Record{less, less}, less)
		checkFold(t, ascending[:i+1], less)
		for _, more := range ascending[i+1:] {
			checkFold(t, []api.Record{less, more}, more)
			checkFold(t, []api.Record{more, less}, more)
			checkFold(t, []api.Record{more, less, more, less}, more)
		}
	}
	slices.Reverse(ascending)
	checkFold(t, ascending, ascending[0])
}

func TestFoldPassesOverWhatMayNotBe(t *testing.T) {
	for _, other := range mayNotBe() {
		checkFold(t, []api.Record{other})
		for _, r := range []api.Record{put(1, "k", ""), gone(1, "k"), put(greatest, "k", strings.Repeat("v", 2048)), put(1, strings.Repeat("k", 64), "v")} {
			checkFold(t, []api.Record{other, r}, r)
			checkFold(t, []api.Record{r, other}, r)
			checkFold(t, []api.Record{other, r, other}, r)
		}
	}
	all := append(mayNotBe(), put(1, "k", "v"), gone(1, "j"))
	checkFold(t, append(all, mayNotBe()...), gone(1, "j"), put(1, "k", "v"))
}

// sortedKeys stand byte by byte in order, whatever letters they may be.
var sortedKeys = []string{"\x00", "\x00\x00", "\x01", " ", "-", "0", "1", "10", "2", "A", "Z", "a", "a\x00", "a b", "aA", "aa", strings.Repeat("a", 64), "ab", "b", "z", "\x7f", "\x80", "é", "ü", "\xff", "\xff\xff"}

func TestFoldGoesByKeys(t *testing.T) {
	r := source()
	for range 50 {
		var l, want []api.Record
		for i, key := range sortedKeys {
			counts := put(uint64(5+i), key, "v"+key)
			if i%5 == 0 {
				counts = gone(uint64(5+i), key)
			}
			want = append(want, counts)
			l = append(l, counts, put(uint64(4+i), key, "elder"), gone(1, key))
		}
		r.Shuffle(len(l), func(i, k int) { l[i], l[k] = l[k], l[i] })
		checkFold(t, l, want...)
	}
}

// What counts of one key has nothing to do with the others, with greater numbers or not.
func TestFoldOfSeveralKeys(t *testing.T) {
	checkFold(t, []api.Record{put(5, "b", "x"), put(4, "b", "y"), gone(7, "a"), put(6, "a", "z"), put(3, "c", "x"), put(3, "c", "xx"), put(3, "c", "w")},
		gone(7, "a"), put(5, "b", "x"), put(3, "c", "xx"))
	checkFold(t, []api.Record{gone(9, "a"), gone(8, "ab"), put(7, "abc", "")}, gone(9, "a"), gone(8, "ab"), put(7, "abc", ""))
	checkFold(t, []api.Record{gone(1, "a"), gone(2, "b")}, gone(1, "a"), gone(2, "b"))
}

func foldByWords(l []api.Record) []api.Record {
	counts := map[string]api.Record{}
	for _, r := range l {
		if !mayBeSeen(bare(r, at(1, 0))) || len(r.Value) > 2048 || r.Kind == api.Delete && r.Value != "" {
			continue
		}
		other, there := counts[r.Key]
		if !there || r.LSN > other.LSN || r.LSN == other.LSN && body(r) > body(other) {
			counts[r.Key] = r
		}
	}
	var folded []api.Record
	for _, r := range counts {
		folded = append(folded, r)
	}
	slices.SortFunc(folded, func(a, b api.Record) int { return strings.Compare(a.Key, b.Key) })
	return folded
}

func TestFoldIsWhatTheWordsSay(t *testing.T) {
	r := source()
	for range 3000 {
		l := anyRecords(r, 12)
		checkFold(t, l, foldByWords(l)...)
	}
}
