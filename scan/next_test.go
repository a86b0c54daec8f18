package scan_test

import (
	"bytes"
	"math"
	"testing"

	"salvor/scan"
)

func checkNext(t *testing.T, b []byte, from, wantAt, wantLen int) {
	t.Helper()
	if at, size := scan.Next(b, from); at != wantAt || size != wantLen {
		t.Errorf("Next(%x, %d) = %d, %d, want %d, %d", b, from, at, size, wantAt, wantLen)
	}
}

func TestNextFindsTheFirstFrameFromAPlaceOn(t *testing.T) {
	d := whole(gone(2, "key"))
	b := []byte("ab" + small + "c" + d) // frames at 2 and at 17
	for _, from := range []int{math.MinInt, -100, -1, 0, 1, 2} {
		checkNext(t, b, from, 2, 14)
	}
	for from := 3; from <= 17; from++ { // 16: right behind the first
		checkNext(t, b, from, 17, len(d))
	}
	for _, from := range []int{18, len(b) - 1, len(b), len(b) + 1, 2 * len(b), math.MaxInt - 1, math.MaxInt} {
		checkNext(t, b, from, -1, 0)
	}
	twice := []byte(small + small)
	checkNext(t, twice, 0, 0, 14)
	checkNext(t, twice, 1, 14, 14)
	checkNext(t, twice, 13, 14, 14)
	checkNext(t, twice, 14, 14, 14)
	checkNext(t, twice, 15, -1, 0)
	checkNext(t, twice, 28, -1, 0)
}

func TestNextWhereThereIsNone(t *testing.T) {
	for _, b := range [][]byte{nil, {}, []byte("junk"), []byte(lead), bytes.Repeat([]byte(lead), 20), []byte(small[:13]), []byte(small[1:]), []byte(framed("ab")), []byte(small + small)[:13]} {
		for from := -2; from <= len(b)+2; from++ {
			checkNext(t, b, from, -1, 0)
		}
		checkNext(t, b, math.MinInt, -1, 0)
		checkNext(t, b, math.MaxInt, -1, 0)
	}
}

func TestNextGoesPastLeadsThatBeginNothing(t *testing.T) {
	checkNext(t, []byte(lead+small), 0, 1, 14)
	checkNext(t, []byte(lead+lead+lead+small), 1, 3, 14)
	checkNext(t, []byte("\xa7\x00\x00\x05"+small), 0, 4, 14)
	checkNext(t, []byte(small[:13]+small), 0, 13, 14)
	checkNext(t, []byte(framed("ab")+small), 0, 11, 14)
}

func TestNextIsWhatTheWordsSay(t *testing.T) {
	for _, b := range some() {
		for from := -1; from <= len(b)+1; from += 1 + len(b)/40 {
			at, size := nextByWords(b, from)
			checkNext(t, b, from, at, size)
		}
		for _, l := range framesByWords(b) { // at each frame's first byte, beside it, and right behind it
			checkNext(t, b, l.At, l.At, l.Len)
			for _, from := range []int{l.At - 1, l.At + 1, l.At + l.Len - 1, l.At + l.Len} {
				at, size := nextByWords(b, from)
				checkNext(t, b, from, at, size)
			}
		}
	}
}

// It ends at the first frame that it finds: gone through to the end each time, this would take minutes.
func TestNextLooksNoFurther(t *testing.T) {
	b := bytes.Repeat([]byte(small), 1<<17)
	for from := 0; from < len(b)-14; from += 14 {
		if at, size := scan.Next(b, from+1); at != from+14 || size != 14 {
			t.Fatalf("Next(.., %d) = %d, %d", from+1, at, size)
		}
	}
}
