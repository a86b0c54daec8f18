package names_test

import (
	"strings"
	"testing"

	"salvor/api"
	"salvor/names"
)

func checkParse(t *testing.T, name string, class api.Class, number uint32) {
	t.Helper()
	if c, n := names.Parse(name); c != class || n != number {
		t.Errorf("Parse(%q) = %d, %d, want %d, %d", name, c, n, class, number)
	}
}

func TestParseOfKnownNames(t *testing.T) {
	checkParse(t, "seg-0000002a.log", api.Segment, 42)
	checkParse(t, "seg-0000000a.log", api.Segment, 10)
	checkParse(t, "seg-00000001.log", api.Segment, 1)
	checkParse(t, "seg-ffffffff.log", api.Segment, 4294967295)
	checkParse(t, "seg-00000001.hint", api.Hints, 1)
	checkParse(t, "seg-fedcba98.hint", api.Hints, 0xfedcba98)
	checkParse(t, "bad-00000001.bin", api.Quarantine, 1)
	checkParse(t, "bad-76543210.bin", api.Quarantine, 0x76543210)
	checkParse(t, "bad-ffffffff.bin", api.Quarantine, 4294967295)
}

func TestParseTakesNoughtAsNoNumber(t *testing.T) {
	checkParse(t, "seg-00000000.log", api.Other, 0)
	checkParse(t, "seg-00000000.hint", api.Other, 0)
	checkParse(t, "bad-00000000.bin", api.Other, 0)
}

func TestParseTakesEightDigitsAlone(t *testing.T) {
	for count := 0; count <= 20; count++ {
		digits := strings.Repeat("1", count)
		want := func(c api.Class, name string) {
			if count == 8 {
				checkParse(t, name, c, 0x11111111)
			} else {
				checkParse(t, name, api.Other, 0)
			}
		}
		want(api.Segment, "seg-"+digits+".log")
		want(api.Hints, "seg-"+digits+".hint")
		want(api.Quarantine, "bad-"+digits+".bin")
	}
	// noughts ahead do not make up for one that is too many, nor does what stands in 32 bits
	checkParse(t, "seg-000000001.log", api.Other, 0)
	checkParse(t, "seg-100000001.log", api.Other, 0)
	checkParse(t, "seg-0000001.log", api.Other, 0)
}

func TestParseTakesSmallDigitsAlone(t *testing.T) {
	for c := range 256 {
		for at := range 8 {
			digits := []byte("00000000")
			digits[at] = byte(c)
			digit := strings.IndexByte("0123456789abcdef", byte(c))
			class, number := api.Quarantine, uint32(digit)<<(4*(7-at))
			if digit <= 0 {
				class, number = api.Other, 0
			}
			checkParse(t, "bad-"+string(digits)+".bin", class, number)
		}
	}
}

func TestParseOfOtherNames(t *testing.T) {
	for _, name := range []string{
		"", "a", "tmp", ".tm", "x.TMP", "x.tmpx", "x.tmp ", "seg-1.log", "SEG-00000001.log", "seg-0000000A.log", "seg-00000001.LOG",
		"seg-00000001.bin", "bad-00000001.log", "bad-00000001.hint", "seg-00000001", "seg-00000001.log.log", "seg-00000001.log\n", "\nseg-00000001.log",
	} {
		checkParse(t, name, api.Other, 0)
	}
}

func TestParseTellsTempAheadOfAllElse(t *testing.T) {
	for _, name := range []string{".tmp", "x.tmp", ".tmp.tmp", "seg-00000001.tmp", "a\n.tmp", "\xff.tmp"} {
		checkParse(t, name, api.Temp, 0)
	}
	for _, c := range numbered {
		for _, n := range edgeNumbers {
			checkParse(t, nameOf(c, n)+".tmp", api.Temp, 0)
			checkParse(t, nameOf(c, n)+".tmp.tmp", api.Temp, 0)
		}
	}
}

func TestParseOfEdges(t *testing.T) {
	for _, name := range edgeNames() {
		c, n := parseByWords(name)
		checkParse(t, name, c, n)
	}
}

// One byte decides: each that is left out, put in or changed, at every place of a name of each class.
func TestParseOfNamesAByteOff(t *testing.T) {
	for _, name := range []string{"seg-0000000a.log", "seg-9abcdef1.hint", "bad-00000010.bin", "seg-00000001.log.tmp", ".tmp"} {
		for _, name := range near(name) {
			c, n := parseByWords(name)
			checkParse(t, name, c, n)
		}
	}
}

func TestParseOfAnyNames(t *testing.T) {
	r := source()
	for range 20000 {
		name := anyName(r, 1<<32-1)
		c, n := parseByWords(name)
		checkParse(t, name, c, n)
	}
}
