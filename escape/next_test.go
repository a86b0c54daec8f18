package escape_test

import (
	"math"
	"strings"
	"testing"

	"salvor/api"
	"salvor/escape"
)

func checkNext(t *testing.T, b string, from, want int) {
	t.Helper()
	if got := escape.Next([]byte(b), from); got != want {
		t.Errorf("Next(%x, %d) = %d, want %d", b, from, got, want)
	}
}

func TestNextFindsTheFirstFromAPlaceOn(t *testing.T) {
	checkNext(t, "\x00\xa7\xa7", 0, 1)
	checkNext(t, "\x00\xa7\xa7", 1, 1)
	checkNext(t, "\x00\xa7\xa7", 2, 2)
	checkNext(t, "\x00\xa7\xa7", 3, 3)
	checkNext(t, "\xa7ab", 0, 0)
	checkNext(t, "\xa7ab", 1, 3)
	checkNext(t, "ab\xa7", 0, 2)
	checkNext(t, "ab\xa7", 2, 2)
	checkNext(t, "a\xa7b\xa7c", 2, 3)
}

func TestNextOfBytesWithoutALeadByte(t *testing.T) {
	for from := -2; from <= 8; from++ {
		checkNext(t, "salvor", from, 6)
		checkNext(t, "\xa6\xa5\xa8\x01\x27", from, 5)
	}
}

// Whatever pairs there are: Next looks at single bytes, which need not be escaped ones.
func TestNextLooksForNothingButTheLeadByte(t *testing.T) {
	checkNext(t, "\xa6\x01\xa6\x00", 0, 4)
	checkNext(t, "\xa6\xa7", 0, 1)
	checkNext(t, "\xa6\x02\xa7\xa6", 0, 2)
	for c := range 256 {
		want := 1
		if c == 0xa7 {
			want = 0
		}
		checkNext(t, string([]byte{byte(c)}), 0, want)
	}
}

func TestNextFromBelowNought(t *testing.T) {
	for _, from := range []int{-1, -2, -1000, math.MinInt + 1, math.MinInt} {
		checkNext(t, "\xa7a\xa7", from, 0)
		checkNext(t, "a\xa7b\xa7", from, 1)
		checkNext(t, "ab", from, 2)
	}
}

func TestNextAtTheEndAndBeyond(t *testing.T) {
	for _, from := range []int{3, 4, 1000, math.MaxInt - 1, math.MaxInt} {
		checkNext(t, "\xa7\xa7\xa7", from, 3)
	}
	// what stands in the spare room is no part of a list
	b := []byte("ab\xa7\xa7")[:2]
	for from := -1; from <= 5; from++ {
		if got := escape.Next(b, from); got != 2 {
			t.Errorf("Next(%x, %d), with lead bytes in its spare room, = %d", b, from, got)
		}
	}
}

func TestNextOfNothing(t *testing.T) {
	for _, b := range [][]byte{nil, {}, {api.Lead}} {
		for _, from := range []int{math.MinInt, -1, 0, 1, math.MaxInt} {
			if got := escape.Next(b[:0], from); got != 0 {
				t.Errorf("Next of nothing, from %d on, = %d", from, got)
			}
		}
	}
}

func TestNextIsWhatTheWordsSay(t *testing.T) {
	r := source()
	for range 500 {
		b := anyBytes(r, r.Intn(60))
		want := len(b)
		for from := len(b) + 2; from >= -2; from-- { // from the end on, so that the last one seen is the first one
			if from >= 0 && from < len(b) && b[from] == 0xa7 {
				want = from
			}
			checkNext(t, string(b), from, want)
		}
	}
	far := strings.Repeat("a", 100000)
	checkNext(t, far+"\xa7"+far+"\xa7", 0, 100000)
	checkNext(t, far+"\xa7"+far+"\xa7", 100001, 200001)
}

func TestNextFindsNoneInWhatWrapGives(t *testing.T) {
	r := source()
	for count := range 300 {
		escaped := escape.Wrap(anyBytes(r, count))
		checkNext(t, string(escaped), 0, len(escaped))
	}
}
