package names_test

import (
	"slices"
	"testing"

	"salvor/api"
	"salvor/names"
)

func checkMake(t *testing.T, c api.Class, number uint32, want string, errno api.Errno) {
	t.Helper()
	if s, e := names.Make(c, number); s != want || e != errno {
		t.Errorf("Make(%d, %d) = %q, %d, want %q, %d", c, number, s, e, want, errno)
	}
}

func TestMakeOfKnownNumbers(t *testing.T) {
	checkMake(t, api.Segment, 1, "seg-00000001.log", api.OK)
	checkMake(t, api.Segment, 42, "seg-0000002a.log", api.OK)
	checkMake(t, api.Hints, 255, "seg-000000ff.hint", api.OK)
	checkMake(t, api.Hints, 0x89abcdef, "seg-89abcdef.hint", api.OK)
	checkMake(t, api.Quarantine, 0x01234567, "bad-01234567.bin", api.OK)
	checkMake(t, api.Quarantine, 4294967295, "bad-ffffffff.bin", api.OK)
}

func TestMakeOfAnyNumbers(t *testing.T) {
	r := source()
	l := slices.Clone(edgeNumbers)
	for range 2000 {
		l = append(l, max(1, r.Uint32()>>r.Intn(32)))
	}
	for _, n := range l {
		for _, c := range numbered {
			checkMake(t, c, n, nameOf(c, n), api.OK)
		}
	}
}

func TestMakeOfNoNumber(t *testing.T) {
	for _, c := range append(numbered, unnumbered...) {
		checkMake(t, c, 0, "", api.ErrNamesArg)
	}
}

func TestMakeOfClassesWithoutNumbers(t *testing.T) {
	for _, c := range unnumbered {
		for _, n := range edgeNumbers {
			checkMake(t, c, n, "", api.ErrNamesArg)
		}
	}
}

func TestErrNamesArgIsSixty(t *testing.T) {
	if _, errno := names.Make(api.Other, 1); errno != 60 {
		t.Errorf("Make tells %d", errno)
	}
	if _, errno := names.Fresh(api.Other); errno != 60 {
		t.Errorf("Fresh tells %d", errno)
	}
}

func checkTemp(t *testing.T, name, want string) {
	t.Helper()
	if got := names.Temp(name); got != want {
		t.Errorf("Temp(%q) = %q, want %q", name, got, want)
	}
}

func TestTempOfKnownNames(t *testing.T) {
	checkTemp(t, "", ".tmp")
	checkTemp(t, "a", "a.tmp")
	checkTemp(t, ".tmp", ".tmp.tmp")
	checkTemp(t, "a.tmp", "a.tmp.tmp")
	checkTemp(t, "seg-00000001.log", "seg-00000001.log.tmp")
}

func TestTempOfAnyNames(t *testing.T) {
	for _, name := range edgeNames() {
		checkTemp(t, name, string(append([]byte(name), ".tmp"...)))
		checkParse(t, names.Temp(name), api.Temp, 0)
	}
}
