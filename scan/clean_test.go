package scan_test

import (
	"bytes"
	"strings"
	"testing"

	"salvor/scan"
)

func checkClean(t *testing.T, s, want string) {
	t.Helper()
	if got := scan.Clean([]byte(s)); string(got) != want {
		t.Errorf("Clean(%x) = %x, want %x", s, got, want)
	}
}

func TestCleanLeavesTheFrames(t *testing.T) {
	d := whole(gone(2, "\xa7"))
	all := small + d + whole(hint(3, 2, 7, 20, "k")) + whole(foot(1, 2, 3, 4))
	checkClean(t, small, small)
	checkClean(t, all, all)
	checkClean(t, "x"+small, small)
	checkClean(t, small+"x", small)
	checkClean(t, small+"xyz"+d, small+d)
	checkClean(t, d+lead+small, d+small)
	checkClean(t, lead+lead+small+lead+lead+d+lead, small+d)
	checkClean(t, small[:13]+d+small[1:]+small, d+small)
	checkClean(t, "\xa7\x00\x00\x05"+small, small)
	checkClean(t, framed("a"+small+"b"), small)
	checkClean(t, strings.Repeat("x"+all+lead, 1000), strings.Repeat(all, 1000))
	// a frame that comes to be only where junk has gone is none of them
	checkClean(t, small[:5]+"x"+small[5:], "")
	checkClean(t, small[:5]+d+small[5:], d)
}

func TestCleanOfNothing(t *testing.T) {
	for _, b := range [][]byte{nil, {}, []byte(small)[:0], []byte(small)[:13], []byte("junk"), []byte(lead), bytes.Repeat([]byte(lead), 500), []byte(framed("ab"))} {
		if got := scan.Clean(b); len(got) > 0 {
			t.Errorf("Clean(%x) = %x", b, got)
		}
	}
}

func TestCleanIsWhatTheWordsSay(t *testing.T) {
	for _, b := range some() {
		checkClean(t, string(b), string(cleanByWords(b)))
	}
}
