package scan_test

import (
	"bytes"
	"slices"
	"strings"
	"testing"

	"salvor/api"
	"salvor/scan"
)

func checkExtents(t *testing.T, s string, want ...api.Extent) {
	t.Helper()
	if got := cut(s); !slices.Equal(got, want) {
		t.Errorf("Extents(%x) = %v, want %v", s, got, want)
	}
}

func TestExtentsOfNothing(t *testing.T) {
	for _, b := range [][]byte{nil, {}, []byte(small)[:0]} {
		if got := scan.Extents(b); len(got) > 0 {
			t.Errorf("Extents of nothing = %v", got)
		}
	}
}

func TestExtentsOfJunkAlone(t *testing.T) {
	for _, s := range []string{
		"a", "junk", lead, "\x00\xa7\xa7", strings.Repeat(lead, 500), small[1:], small[:4], small[:13],
		"\xa7\x00\x00\x05", "\xa7\x00\x00\x00\x00\x00\x00\x00\x00", strings.Replace(small, "k", "j", 1),
		framed(""), framed("\x01"), framed("\x05\x01\x01k"), framed("\x02\x00k"), framed("\x02\x01\xa6"), // right sums around what is no body
	} {
		checkExtents(t, s, isJunk(0, len(s)))
	}
}

func TestExtentsOfFramesAlone(t *testing.T) {
	checkExtents(t, small, isFrame(0, 14))
	checkExtents(t, small+small, isFrame(0, 14), isFrame(14, 14))
	var b string
	var want []api.Extent
	for _, f := range ofEachKind() {
		want = append(want, isFrame(len(b), len(whole(f))))
		b += whole(f)
	}
	checkExtents(t, b, want...)
	long := whole(put(1<<64-1, strings.Repeat(lead, 64), strings.Repeat(lead, 2048)))
	checkExtents(t, long+long, isFrame(0, len(long)), isFrame(len(long), len(long)))
}

func TestExtentsWithJunkBeside(t *testing.T) {
	checkExtents(t, "xy"+small, isJunk(0, 2), isFrame(2, 14))
	checkExtents(t, small+"xy", isFrame(0, 14), isJunk(14, 2))
	checkExtents(t, small+"xy"+small, isFrame(0, 14), isJunk(14, 2), isFrame(16, 14))
	checkExtents(t, "x"+small+"yz"+small+small+"123", isJunk(0, 1), isFrame(1, 14), isJunk(15, 2), isFrame(17, 14), isFrame(31, 14), isJunk(45, 3))
}

func TestExtentsWithLeadsThatBeginNothing(t *testing.T) {
	checkExtents(t, lead+small, isJunk(0, 1), isFrame(1, 14))
	checkExtents(t, small+lead, isFrame(0, 14), isJunk(14, 1))
	checkExtents(t, small+lead+lead+lead+small, isFrame(0, 14), isJunk(14, 3), isFrame(17, 14))
	checkExtents(t, "x"+lead+"y"+lead+small+lead+"z", isJunk(0, 4), isFrame(4, 14), isJunk(18, 2))
	// behind such a lead byte a length may stand, of whatever stands behind it
	checkExtents(t, "\xa7\x00\x00\x05"+small, isJunk(0, 4), isFrame(4, 14))
	for _, length := range []string{"\x00\x00\x00", "\x00\x00\x01", "\x00\x00\x0e", "\x00\x00\x13", "\x7f\x7f\x7f", "\x00\x00", "\x00"} {
		n := 1 + len(length)
		checkExtents(t, lead+length+small+small, isJunk(0, n), isFrame(n, 14), isFrame(n+14, 14))
	}
	// bytes with a right sum around them, which are no body, are junk up to a frame within them
	s := framed("ab" + small + "cd")
	checkExtents(t, s, isJunk(0, 6), isFrame(6, 14), isJunk(20, 7))
}

func TestExtentsWithFramesThatLackSomething(t *testing.T) {
	checkExtents(t, small+"\x01\x02"+small[:13], isFrame(0, 14), isJunk(14, 15))
	for n := 1; n < 14; n++ {
		checkExtents(t, small[:n], isJunk(0, n))
		checkExtents(t, small+small[:n], isFrame(0, 14), isJunk(14, n))
		checkExtents(t, small[:n]+small, isJunk(0, n), isFrame(n, 14))
		checkExtents(t, small[n:]+small, isJunk(0, 14-n), isFrame(14-n, 14))
		checkExtents(t, small[:n]+small+small[n:], isJunk(0, n), isFrame(n, 14), isJunk(n+14, 14-n))
	}
	// what stands in the spare room is no part of a list
	if got := scan.Extents([]byte(small + small)[:27]); !slices.Equal(got, []api.Extent{isFrame(0, 14), isJunk(14, 13)}) {
		t.Errorf("of a list that ends within a frame: %v", got)
	}
}

func TestExtentsAreWhatTheWordsSay(t *testing.T) {
	for _, b := range some() {
		checkExtents(t, string(b), extentsByWords(b)...)
	}
}

// Laid one behind the other they are the bytes; no two runs of junk stand side by side, and none is empty.
func TestExtentsCoverAllBytes(t *testing.T) {
	for _, b := range some() {
		end, junk := 0, false
		for _, x := range scan.Extents(b) {
			if x.At != end || x.Len < 1 || x.Junk && junk {
				t.Fatalf("Extents(%x) = %v", b, scan.Extents(b))
			}
			end, junk = x.At+x.Len, x.Junk
		}
		if end != len(b) {
			t.Fatalf("Extents(%x) ends at %d", b, end)
		}
	}
}

// What looks like the beginning of a long frame again and again is given up at the next lead byte: gone through each time, this would take hours.
func TestExtentsOfMuchThatLooksLikeFrames(t *testing.T) {
	for _, looks := range []string{"\xa7\x7f\x7f\x7f", "\xa7\x3f\x7f\x7f", "\xa7", "\xa7\x00\x00\x05\x01\x01\x01", framed("ab")} {
		n := 4 << 20 / len(looks)
		b := append(bytes.Repeat([]byte(looks), n), small...)
		if got, want := scan.Extents(b), []api.Extent{isJunk(0, n*len(looks)), isFrame(n*len(looks), 14)}; !slices.Equal(got, want) {
			t.Errorf("Extents of many times %x = %v, want %v", looks, got[:min(len(got), 5)], want)
		}
	}
}

func TestExtentsOfManyFrames(t *testing.T) {
	got := cut(strings.Repeat(small+"x", 50000))
	if len(got) != 100000 {
		t.Fatalf("%d extents", len(got))
	}
	for i := range 50000 {
		if got[2*i] != isFrame(15*i, 14) || got[2*i+1] != isJunk(15*i+14, 1) {
			t.Fatalf("the extents %d: %v", 2*i, got[2*i:2*i+2])
		}
	}
}
