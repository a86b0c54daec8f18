package names_test

import (
	"testing"

	"salvor/api"
	"salvor/names"
)

func checkPair(t *testing.T, name, want string, has bool) {
	t.Helper()
	if got, is := names.Pair(name); got != want || is != has {
		t.Errorf("Pair(%q) = %q, %v, want %q, %v", name, got, is, want, has)
	}
}

func TestPairOfKnownNames(t *testing.T) {
	checkPair(t, "seg-00000001.hint", "seg-00000001.log", true)
	checkPair(t, "seg-00000001.log", "seg-00000001.hint", true)
	checkPair(t, "seg-ffffffff.log", "seg-ffffffff.hint", true)
	checkPair(t, "seg-abcdef09.hint", "seg-abcdef09.log", true)
	for _, name := range []string{"", "x", "bad-00000001.bin", "seg-00000001.log.tmp", "seg-00000001.hint.tmp", ".tmp", "seg-00000000.log", "seg-00000000.hint", "seg-0000000A.log", "seg-1.hint"} {
		checkPair(t, name, "", false)
	}
}

func checkPairByWords(t *testing.T, name string) {
	t.Helper()
	c, n := parseByWords(name)
	switch c {
	case api.Segment:
		checkPair(t, name, nameOf(api.Hints, n), true)
	case api.Hints:
		checkPair(t, name, nameOf(api.Segment, n), true)
	default:
		checkPair(t, name, "", false)
	}
}

func TestPairOfAnyNames(t *testing.T) {
	for _, name := range edgeNames() {
		checkPairByWords(t, name)
	}
	for _, name := range []string{"seg-0000000a.log", "seg-00000001.hint"} {
		for _, name := range near(name) {
			checkPairByWords(t, name)
		}
	}
	r := source()
	for range 5000 {
		checkPairByWords(t, anyName(r, 1<<32-1))
	}
}

func TestPairOfAPairIsTheName(t *testing.T) {
	for _, n := range edgeNumbers {
		for _, c := range []api.Class{api.Segment, api.Hints} {
			other, _ := names.Pair(nameOf(c, n))
			checkPair(t, other, nameOf(c, n), true)
		}
	}
}
