package escape_test

import (
	"bytes"
	"math/rand"
	"strings"
	"testing"

	"salvor/api"
	"salvor/escape"
)

func source() *rand.Rand { return rand.New(rand.NewSource(3)) }

// telling are the bytes that mean something, and those beside them.
const telling = "\x00\x01\x02\xa5\xa6\xa7\xa8"

// anyBytes are bytes of which most are of those that mean something, in any order.
func anyBytes(r *rand.Rand, count int) []byte {
	b := make([]byte, count)
	for i := range b {
		b[i] = telling[r.Intn(len(telling))]
		if r.Intn(4) == 0 {
			b[i] = byte(r.Intn(256))
		}
	}
	return b
}

// goodBytes are escaped bytes: written down by their words, not by Wrap.
func goodBytes(r *rand.Rand, count int) []byte { return wrapByWords(anyBytes(r, count)) }

// wrapByWords is what the chapter says the escaped bytes are.
func wrapByWords(plain []byte) []byte {
	return []byte(strings.NewReplacer("\xa7", "\xa6\x01", "\xa6", "\xa6\x00").Replace(string(plain)))
}

// eachShort calls for all lists of up to so many bytes that mean something or stand beside such a one.
func eachShort(most int, call func([]byte)) {
	var longer func([]byte)
	longer = func(b []byte) {
		call(b)
		for i := 0; i < len(telling) && len(b) < most; i++ {
			longer(append(bytes.Clone(b), telling[i]))
		}
	}
	longer(nil)
}

func checkWrap(t *testing.T, plain, want string) {
	t.Helper()
	if got := escape.Wrap([]byte(plain)); string(got) != want {
		t.Errorf("Wrap(%x) = %x, want %x", plain, got, want)
	}
	if got := escape.Size([]byte(plain)); got != len(want) {
		t.Errorf("Size(%x) = %d, want %d", plain, got, len(want))
	}
}

func TestWrapKnownBytes(t *testing.T) {
	checkWrap(t, "\xa7", "\xa6\x01")
	checkWrap(t, "\xa6", "\xa6\x00")
	checkWrap(t, "\xa7\x00\xa6", "\xa6\x01\x00\xa6\x00")
	checkWrap(t, "\xa7\xa6", "\xa6\x01\xa6\x00")
	checkWrap(t, "\xa6\xa7", "\xa6\x00\xa6\x01")
	checkWrap(t, "\xa7\xa7", "\xa6\x01\xa6\x01")
	checkWrap(t, "\xa6\xa6", "\xa6\x00\xa6\x00")
	checkWrap(t, "salvor", "salvor")
}

func TestWrapAtTheBeginningInTheMiddleAtTheEnd(t *testing.T) {
	for plain, pair := range map[string]string{"\xa7": "\xa6\x01", "\xa6": "\xa6\x00"} {
		checkWrap(t, plain+"ab", pair+"ab")
		checkWrap(t, "a"+plain+"b", "a"+pair+"b")
		checkWrap(t, "ab"+plain, "ab"+pair)
		checkWrap(t, plain+"a"+plain+"b"+plain, pair+"a"+pair+"b"+pair)
	}
}

// What would be the second half of a pair is written as it is, wherever it stands.
func TestWrapLeavesSecondHalvesAsTheyAre(t *testing.T) {
	checkWrap(t, "\x00", "\x00")
	checkWrap(t, "\x01", "\x01")
	checkWrap(t, "\x01\x00\x01", "\x01\x00\x01")
	checkWrap(t, "\xa6\x00", "\xa6\x00\x00")
	checkWrap(t, "\xa6\x01", "\xa6\x00\x01")
	checkWrap(t, "\xa7\x00", "\xa6\x01\x00")
	checkWrap(t, "\xa7\x01", "\xa6\x01\x01")
}

func TestWrapOfNothing(t *testing.T) {
	for _, plain := range [][]byte{nil, {}, {api.Lead, api.Esc}} {
		plain = plain[:0] // also where something stands in the spare room
		if got := escape.Wrap(plain); len(got) > 0 {
			t.Errorf("Wrap of nothing = %x", got)
		}
		if got := escape.Size(plain); got != 0 {
			t.Errorf("Size of nothing = %d", got)
		}
	}
}

func TestWrapEveryByte(t *testing.T) {
	for c := range 256 {
		want := []byte{byte(c)}
		switch c {
		case 0xa7:
			want = []byte{0xa6, 0x01}
		case 0xa6:
			want = []byte{0xa6, 0x00}
		}
		checkWrap(t, string([]byte{byte(c)}), string(want))
	}
}

func TestWrapIsWhatTheWordsSay(t *testing.T) {
	eachShort(5, func(plain []byte) {
		checkWrap(t, string(plain), string(wrapByWords(plain)))
	})
	r := source()
	for count := range 1000 {
		plain := anyBytes(r, count)
		checkWrap(t, string(plain), string(wrapByWords(plain)))
	}
	checkWrap(t, strings.Repeat("\xa7", 100000), strings.Repeat("\xa6\x01", 100000))
	checkWrap(t, strings.Repeat("a", 100000), strings.Repeat("a", 100000))
}

func TestWrapGivesNoLeadByte(t *testing.T) {
	r := source()
	for count := range 1000 {
		plain := anyBytes(r, count)
		if got := escape.Wrap(plain); bytes.IndexByte(got, api.Lead) >= 0 {
			t.Errorf("Wrap(%x) = %x", plain, got)
		}
	}
}

func TestWrapGoesPieceByPiece(t *testing.T) {
	r := source()
	for range 2000 {
		both := anyBytes(r, r.Intn(60))
		cut := r.Intn(len(both) + 1)
		one, other := both[:cut], both[cut:]
		want := append(escape.Wrap(one), escape.Wrap(other)...)
		if got := escape.Wrap(both); !bytes.Equal(got, want) {
			t.Errorf("Wrap(%x %x) = %x, want %x", one, other, got, want)
		}
		if got, want := escape.Size(both), escape.Size(one)+escape.Size(other); got != want {
			t.Errorf("Size(%x %x) = %d, want %d", one, other, got, want)
		}
	}
}
