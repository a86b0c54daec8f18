package names_test

import (
	"slices"
	"testing"

	"salvor/api"
	"salvor/names"
)

func TestParseOfWhatMakeGives(t *testing.T) {
	r := source()
	l := slices.Clone(edgeNumbers)
	for range 5000 {
		l = append(l, max(1, r.Uint32()>>r.Intn(32)))
	}
	for _, n := range l {
		for _, c := range numbered {
			name, errno := names.Make(c, n)
			if errno != api.OK {
				t.Fatalf("Make(%d, %d) tells %d", c, n, errno)
			}
			checkParse(t, name, c, n)
		}
	}
}

func TestANameOfAClassWithNumbersIsWhatMakeGives(t *testing.T) {
	r := source()
	l := edgeNames()
	for _, name := range []string{"seg-0000000a.log", "seg-9abcdef1.hint", "bad-00000010.bin"} {
		l = append(l, near(name)...)
	}
	for range 5000 {
		l = append(l, anyName(r, 1<<32-1))
	}
	for _, name := range l {
		c, n := names.Parse(name)
		if c == api.Temp || c == api.Other {
			if n != 0 {
				t.Errorf("Parse(%q) = %d, %d", name, c, n)
			}
			continue
		}
		checkMake(t, c, n, name, api.OK)
	}
}

// What is made by a fresh number is none of the names that were there, nor is it as a temp; and no lesser number would do.
func TestWhatFreshTellsIsFree(t *testing.T) {
	for _, l := range nameLists() {
		for _, c := range numbered {
			n, errno := names.Fresh(c, l...)
			if errno != api.OK {
				t.Fatalf("Fresh(%d, %q) tells %d", c, l, errno)
			}
			name, _ := names.Make(c, n)
			for _, name := range []string{name, names.Temp(name)} {
				if slices.Contains(l, name) {
					t.Fatalf("Fresh(%d, %q) = %d, but %q is there", c, l, n, name)
				}
			}
			for lesser := uint32(1); lesser < n; lesser++ {
				if !slices.ContainsFunc(holders(c, lesser), func(name string) bool { return slices.Contains(l, name) }) {
					t.Fatalf("Fresh(%d, %q) = %d, but %d is free", c, l, n, lesser)
				}
			}
		}
	}
}

// A directory that grows by fresh names alone has all numbers, one behind the other.
func TestFreshNamesOneAfterTheOther(t *testing.T) {
	for _, c := range numbered {
		l := []string{"x", "x.tmp", nameOf(api.Segment, 4294967295), nameOf(api.Quarantine, 4294967295)}
		for want := uint32(1); want <= 300; want++ {
			checkFresh(t, c, want, api.OK, l...)
			name, _ := names.Make(c, want)
			if want%3 == 0 {
				name = names.Temp(name)
			}
			if other, has := names.Pair(name); has && want%2 == 0 {
				name = other
			}
			l = slices.Insert(l, int(want)%len(l), name)
		}
	}
}

func TestSegmentsAndHintsAreToldAlike(t *testing.T) {
	for _, l := range nameLists() {
		n, errno := names.Fresh(api.Segment, l...)
		checkFresh(t, api.Hints, n, errno, l...)
	}
}
