package names_test

import (
	"slices"
	"testing"

	"salvor/api"
	"salvor/names"
)

func checkSorted(t *testing.T, want []string, l ...string) {
	t.Helper()
	if got := names.Sorted(l...); !slices.Equal(got, want) {
		t.Errorf("Sorted(%q) = %q, want %q", l, got, want)
	}
}

func TestSortedOfNoName(t *testing.T) {
	checkSorted(t, nil)
	checkSorted(t, nil, []string(nil)...)
	checkSorted(t, nil, []string{}...)
}

func TestSortedOfTheExample(t *testing.T) {
	checkSorted(t,
		[]string{"seg-00000002.log", "seg-0000000a.log", "seg-00000001.hint", "bad-00000001.bin", "x.tmp", "a", "b"},
		"b", "seg-00000002.log", "x.tmp", "bad-00000001.bin", "seg-0000000a.log", "seg-00000001.hint", "b", "a")
}

func TestSortedPutsClassesInTheirOrder(t *testing.T) {
	// each class stands ahead of the next one, whatever their numbers and bytes
	l := []string{"seg-ffffffff.log", "seg-00000001.hint", "seg-ffffffff.hint", "bad-00000001.bin", "bad-ffffffff.bin", "\x00.tmp", "zzz.tmp", "", "\x00", "a"}
	checkSorted(t, l, l...)
	slices.Reverse(l)
	want := slices.Clone(l)
	slices.Reverse(want)
	checkSorted(t, want, l...)
}

func TestSortedPutsNumbersInTheirOrder(t *testing.T) {
	numbers := slices.Clone(edgeNumbers)
	slices.Sort(numbers)
	for _, c := range numbered {
		var want []string
		for _, n := range numbers {
			want = append(want, nameOf(c, n))
		}
		l := slices.Clone(want)
		for range 20 {
			source().Shuffle(len(l), func(i, k int) { l[i], l[k] = l[k], l[i] })
			checkSorted(t, want, l...)
		}
	}
}

func TestSortedPutsOtherNamesByteByByte(t *testing.T) {
	others := []string{"", "\x00", "\x00\x00", "A", "SEG-00000001.log", "Z", "a", "a\x00", "a ", "aa", "ab", "b", "seg-00000000.log", "seg-0000000A.log", "seg-1.log", "z", "\x80", "\xc3\xa4", "\xff", "\xff\xff"}
	shuffled := slices.Clone(others)
	source().Shuffle(len(shuffled), func(i, k int) { shuffled[i], shuffled[k] = shuffled[k], shuffled[i] })
	checkSorted(t, others, shuffled...)
	// of temps the bytes of the ending count as well: what another one begins with is not ahead of it by that
	temps := []string{"\x00.tmp", "!.tmp", ".tmp", ".tmp.tmp", "a!.tmp", "a.tmp", "a.tmp.tmp", "aa.tmp", "seg-00000002.log.tmp", "seg-0000000a.log.tmp", "\xff.tmp"}
	shuffled = slices.Clone(temps)
	source().Shuffle(len(shuffled), func(i, k int) { shuffled[i], shuffled[k] = shuffled[k], shuffled[i] })
	checkSorted(t, temps, shuffled...)
}

func TestSortedGivesEachNameOnce(t *testing.T) {
	for _, name := range edgeNames() {
		checkSorted(t, []string{name}, name)
		checkSorted(t, []string{name}, name, name)
		checkSorted(t, []string{name}, name, name, name, name)
	}
	l := edgeNames()
	want := sortedByWords(l)
	checkSorted(t, want, append(l, l...)...)
}

func TestSortedOfAnyNames(t *testing.T) {
	for _, l := range nameLists() {
		checkSorted(t, sortedByWords(l), l...)
	}
}

func TestSortedDoesNotHangOnTheOrder(t *testing.T) {
	r := source()
	for _, l := range nameLists() {
		want := names.Sorted(l...)
		for range 3 {
			shuffled := slices.Clone(l)
			r.Shuffle(len(shuffled), func(i, k int) { shuffled[i], shuffled[k] = shuffled[k], shuffled[i] })
			checkSorted(t, want, shuffled...)
		}
	}
}

func TestSortedAgainIsTheSame(t *testing.T) {
	for _, l := range nameLists() {
		once := names.Sorted(l...)
		checkSorted(t, once, once...)
		checkSorted(t, once, append(once, l...)...)
	}
}

func TestSortedOfManyNames(t *testing.T) {
	const count = 100000
	got := names.Sorted(append(runOf(api.Quarantine, 1, count), runOf(api.Segment, 1, count)...)...)
	if len(got) != 2*count {
		t.Fatalf("%d names", len(got))
	}
	for i, name := range got {
		c, n := api.Segment, i+1
		if i >= count {
			c, n = api.Quarantine, i-count+1
		}
		if want := nameOf(c, uint32(n)); name != want {
			t.Fatalf("at %d stands %q, want %q", i, name, want)
		}
	}
}
