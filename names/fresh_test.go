package names_test

import (
	"slices"
	"testing"

	"salvor/api"
	"salvor/names"
)

func checkFresh(t *testing.T, c api.Class, want uint32, errno api.Errno, l ...string) {
	t.Helper()
	if n, e := names.Fresh(c, l...); n != want || e != errno {
		t.Errorf("Fresh(%d, %q) = %d, %d, want %d, %d", c, l[:min(len(l), 50)], n, e, want, errno)
	}
}

func TestFreshOfNoName(t *testing.T) {
	for _, c := range numbered {
		checkFresh(t, c, 1, api.OK)
		checkFresh(t, c, 1, api.OK, []string(nil)...)
		checkFresh(t, c, 1, api.OK, []string{}...)
	}
}

func TestFreshOfTheExamples(t *testing.T) {
	l := []string{"seg-00000001.log", "seg-00000003.hint"}
	checkFresh(t, api.Segment, 2, api.OK, l...)
	l = append(l, "seg-00000002.hint.tmp")
	checkFresh(t, api.Segment, 4, api.OK, l...)
	checkFresh(t, api.Hints, 4, api.OK, l...)
	checkFresh(t, api.Quarantine, 1, api.OK, l...)
	checkFresh(t, api.Segment, 1, api.OK, "seg-ffffffff.log", "seg-00000001.log.tmp.tmp", "bad-00000001.bin")
}

func TestFreshOfClassesWithoutNumbers(t *testing.T) {
	for _, c := range unnumbered {
		checkFresh(t, c, 0, api.ErrNamesArg)
		checkFresh(t, c, 0, api.ErrNamesArg, "x", "x.tmp")
		checkFresh(t, c, 0, api.ErrNamesArg, edgeNames()...)
	}
}

// One name alone takes the number 1 or does not.
func TestFreshBesideOneName(t *testing.T) {
	for _, c := range numbered {
		for _, name := range edgeNames() {
			checkFresh(t, c, freshByWords(c, []string{name}), api.OK, name)
		}
		for _, name := range append(holders(api.Segment, 1), holders(api.Quarantine, 1)...) {
			for _, name := range near(name) {
				checkFresh(t, c, freshByWords(c, []string{name}), api.OK, name)
			}
		}
	}
}

func TestFreshTakesWhatIsWrittenAheadAsThere(t *testing.T) {
	for _, c := range []api.Class{api.Segment, api.Hints} {
		for _, name := range []string{"seg-00000001.log", "seg-00000001.hint", "seg-00000001.log.tmp", "seg-00000001.hint.tmp"} {
			checkFresh(t, c, 2, api.OK, name)
		}
		for _, name := range []string{"bad-00000001.bin", "bad-00000001.bin.tmp", "seg-00000001.tmp", "seg-00000001.log.tmp.tmp", "seg-00000001.hint.tmp.tmp", "seg-00000000.log"} {
			checkFresh(t, c, 1, api.OK, name)
		}
	}
	for _, name := range []string{"bad-00000001.bin", "bad-00000001.bin.tmp"} {
		checkFresh(t, api.Quarantine, 2, api.OK, name)
	}
	for _, name := range []string{"seg-00000001.log", "seg-00000001.hint", "seg-00000001.log.tmp", "bad-00000001.tmp", "bad-00000001.bin.tmp.tmp", "bad-00000000.bin"} {
		checkFresh(t, api.Quarantine, 1, api.OK, name)
	}
}

func TestFreshFillsGaps(t *testing.T) {
	for _, c := range numbered {
		for gap := 1; gap <= 40; gap++ {
			l := slices.Concat(runOf(c, 1, gap-1), runOf(c, gap+1, 40), runOf(c, 60, 70), []string{nameOf(c, 4294967295)})
			slices.Reverse(l)
			checkFresh(t, c, uint32(gap), api.OK, l...)
		}
		checkFresh(t, c, 1, api.OK, nameOf(c, 2), nameOf(c, 3))
		checkFresh(t, c, 1, api.OK, nameOf(c, 4294967295), nameOf(c, 4294967294))
	}
}

func TestFreshOfNamesThatStandTwice(t *testing.T) {
	for _, c := range numbered {
		for count := range 10 {
			l := runOf(c, 1, count)
			l = slices.Concat(l, l, l)
			checkFresh(t, c, uint32(count+1), api.OK, l...)
			checkFresh(t, c, uint32(count+1), api.OK, append(l, nameOf(c, uint32(count+2)))...)
		}
	}
	l := slices.Concat(holders(api.Segment, 1), holders(api.Segment, 2), holders(api.Segment, 4))
	checkFresh(t, api.Segment, 3, api.OK, l...)
}

func TestFreshOfAnyNames(t *testing.T) {
	for _, l := range nameLists() {
		for _, c := range numbered {
			checkFresh(t, c, freshByWords(c, l), api.OK, l...)
		}
	}
}

func TestFreshDoesNotHangOnTheOrder(t *testing.T) {
	for _, l := range nameLists() {
		for _, c := range numbered {
			want, _ := names.Fresh(c, l...)
			checkFresh(t, c, want, api.OK, names.Sorted(l...)...)
			turned := slices.Clone(l)
			slices.Reverse(turned)
			checkFresh(t, c, want, api.OK, turned...)
		}
	}
}

func TestFreshOfAMillionNames(t *testing.T) {
	const count = 1000000
	for _, c := range numbered {
		l := runOf(c, 1, count)
		checkFresh(t, c, count+1, api.OK, l...)
		gap := slices.Index(l, nameOf(c, 765432))
		l[gap] = nameOf(c, 4294967295)
		checkFresh(t, c, 765432, api.OK, l...)
	}
}
