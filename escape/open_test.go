package escape_test

import (
	"bytes"
	"regexp"
	"strings"
	"testing"

	"salvor/api"
	"salvor/escape"
)

// stands is the beginning, as long as can be, in which every byte can stand; each byte is a rune there.
var stands = regexp.MustCompile("^(?:[^\u00a6\u00a7]|\u00a6[\u0000\u0001])*")

func asRunes(b []byte) string {
	l := make([]rune, len(b))
	for i, c := range b {
		l[i] = rune(c)
	}
	return string(l)
}

// openByWords is what the chapter says of Open.
func openByWords(escaped []byte) (string, api.Errno, int) {
	at := len([]rune(stands.FindString(asRunes(escaped))))
	switch {
	case at == len(escaped):
		return strings.NewReplacer("\xa6\x01", "\xa7", "\xa6\x00", "\xa6").Replace(string(escaped)), api.OK, 0
	case escaped[at] == 0xa7:
		return "", api.ErrEscapeLead, at
	}
	return "", api.ErrEscapePair, at
}

func checkOpen(t *testing.T, escaped, plain string, errno api.Errno, at int) {
	t.Helper()
	if got, gotErrno, gotAt := escape.Open([]byte(escaped)); string(got) != plain || gotErrno != errno || gotAt != at {
		t.Errorf("Open(%x) = %x, %d, %d, want %x, %d, %d", escaped, got, gotErrno, gotAt, plain, errno, at)
	}
}

func TestOpenKnownBytes(t *testing.T) {
	checkOpen(t, "\xa6\x01", "\xa7", api.OK, 0)
	checkOpen(t, "\xa6\x00", "\xa6", api.OK, 0)
	checkOpen(t, "\x61\xa6\x01\x00", "\x61\xa7\x00", api.OK, 0)
	checkOpen(t, "\xa6\x01\x00\xa6\x00", "\xa7\x00\xa6", api.OK, 0)
	checkOpen(t, "\xa6\x01\xa6\x00", "\xa7\xa6", api.OK, 0)
	checkOpen(t, "\xa6\x00\xa6\x00", "\xa6\xa6", api.OK, 0)
	checkOpen(t, "salvor", "salvor", api.OK, 0)
}

func TestOpenPairsAtTheBeginningInTheMiddleAtTheEnd(t *testing.T) {
	for plain, pair := range map[string]string{"\xa7": "\xa6\x01", "\xa6": "\xa6\x00"} {
		checkOpen(t, pair+"ab", plain+"ab", api.OK, 0)
		checkOpen(t, "a"+pair+"b", "a"+plain+"b", api.OK, 0)
		checkOpen(t, "ab"+pair, "ab"+plain, api.OK, 0)
	}
}

func TestOpenSecondHalvesThatStandForThemselves(t *testing.T) {
	checkOpen(t, "\x00", "\x00", api.OK, 0)
	checkOpen(t, "\x01", "\x01", api.OK, 0)
	checkOpen(t, "\x01\x00\x01", "\x01\x00\x01", api.OK, 0)
	checkOpen(t, "\xa6\x00\x00", "\xa6\x00", api.OK, 0)
	checkOpen(t, "\xa6\x00\x01", "\xa6\x01", api.OK, 0)
	checkOpen(t, "\xa6\x01\x00", "\xa7\x00", api.OK, 0)
	checkOpen(t, "\xa6\x01\x01", "\xa7\x01", api.OK, 0)
}

func TestOpenOfNothing(t *testing.T) {
	for _, escaped := range [][]byte{nil, {}, {api.Lead, api.Esc}} {
		escaped = escaped[:0] // also where something stands in the spare room
		if got, errno, at := escape.Open(escaped); len(got) > 0 || errno != api.OK || at != 0 {
			t.Errorf("Open of nothing = %x, %d, %d", got, errno, at)
		}
	}
}

func TestOpenRefusesALeadByte(t *testing.T) {
	checkOpen(t, "\xa7", "", api.ErrEscapeLead, 0)
	checkOpen(t, "\xa7ab", "", api.ErrEscapeLead, 0)
	checkOpen(t, "a\xa7b", "", api.ErrEscapeLead, 1)
	checkOpen(t, "ab\xa7", "", api.ErrEscapeLead, 2)
	checkOpen(t, "ab\xa7\xa7", "", api.ErrEscapeLead, 2)
	checkOpen(t, "\xa7\x00", "", api.ErrEscapeLead, 0)
	checkOpen(t, "\xa7\x01", "", api.ErrEscapeLead, 0)
	// the place is one of the escaped bytes, not of the plain ones
	checkOpen(t, "\xa6\x01\xa7", "", api.ErrEscapeLead, 2)
	checkOpen(t, "\xa6\x00\xa6\x01\x00\xa7", "", api.ErrEscapeLead, 5)
}

func TestOpenRefusesWhatIsNoPair(t *testing.T) {
	checkOpen(t, "\xa6\x02", "", api.ErrEscapePair, 0)
	checkOpen(t, "\x61\xa6\x02", "", api.ErrEscapePair, 1)
	checkOpen(t, "\x61\xa6\x02\x62", "", api.ErrEscapePair, 1)
	checkOpen(t, "\xa6\x01\xa6\xff", "", api.ErrEscapePair, 2)
	checkOpen(t, "\xa6\x00\x00\xa6\x02\x00", "", api.ErrEscapePair, 3)
	for c := 2; c < 256; c++ {
		checkOpen(t, string([]byte{0xa6, byte(c)}), "", api.ErrEscapePair, 0)
		checkOpen(t, string([]byte{0x01, 0xa6, byte(c), 0x00}), "", api.ErrEscapePair, 1)
	}
}

func TestOpenRefusesAnEscapeByteWithNothingBehind(t *testing.T) {
	checkOpen(t, "\xa6", "", api.ErrEscapePair, 0)
	checkOpen(t, "ab\xa6", "", api.ErrEscapePair, 2)
	checkOpen(t, "\xa6\x00\xa6", "", api.ErrEscapePair, 2)
	checkOpen(t, "\xa6\x01\xa6", "", api.ErrEscapePair, 2)
	// what stands in the spare room is no part of a list
	for _, whole := range []string{"\xa6\x00", "\xa6\x01"} {
		if got, errno, at := escape.Open([]byte(whole)[:1]); len(got) > 0 || errno != api.ErrEscapePair || at != 0 {
			t.Errorf("Open(a6), with %x in its spare room, = %x, %d, %d", whole[1:], got, errno, at)
		}
	}
}

// Of two escape bytes, or of one and a lead byte, the first one cannot stand, whatever comes behind.
func TestOpenRefusesTheFirstOfTwo(t *testing.T) {
	checkOpen(t, "\xa6\xa6", "", api.ErrEscapePair, 0)
	checkOpen(t, "\xa6\xa6\x00", "", api.ErrEscapePair, 0)
	checkOpen(t, "\xa6\xa6\x01", "", api.ErrEscapePair, 0)
	checkOpen(t, "\xa6\xa7", "", api.ErrEscapePair, 0)
	checkOpen(t, "a\xa6\xa7", "", api.ErrEscapePair, 1)
	checkOpen(t, "\xa6\xa7\x01", "", api.ErrEscapePair, 0)
}

func TestOpenTellsTheErrorThatStandsAhead(t *testing.T) {
	checkOpen(t, "\x61\xa7\xa6", "", api.ErrEscapeLead, 1)
	checkOpen(t, "\xa7\xa6\x02", "", api.ErrEscapeLead, 0)
	checkOpen(t, "ab\xa7cd\xa6\x02", "", api.ErrEscapeLead, 2)
	checkOpen(t, "ab\xa6\x02cd\xa7", "", api.ErrEscapePair, 2)
	checkOpen(t, "\xa6\x01a\xa6bc\xa7", "", api.ErrEscapePair, 3)
	checkOpen(t, "a\xa6\x02\xa6", "", api.ErrEscapePair, 1)
}

func checkOpenByWords(t *testing.T, escaped []byte) {
	t.Helper()
	plain, errno, at := openByWords(escaped)
	checkOpen(t, string(escaped), plain, errno, at)
}

func TestOpenIsWhatTheWordsSay(t *testing.T) {
	eachShort(5, func(escaped []byte) { checkOpenByWords(t, escaped) })
	r := source()
	for range 5000 {
		checkOpenByWords(t, anyBytes(r, r.Intn(12)))
		good := goodBytes(r, r.Intn(300))
		checkOpenByWords(t, good)
		checkOpenByWords(t, good[:r.Intn(len(good)+1)])
		if len(good) > 0 {
			good[r.Intn(len(good))] = telling[r.Intn(len(telling))]
			checkOpenByWords(t, good)
		}
	}
}

func TestOpenGivesBackWhatWasWrapped(t *testing.T) {
	eachShort(5, func(plain []byte) {
		checkOpen(t, string(escape.Wrap(plain)), string(plain), api.OK, 0)
	})
	r := source()
	for count := range 1000 {
		plain := anyBytes(r, count)
		checkOpen(t, string(escape.Wrap(plain)), string(plain), api.OK, 0)
	}
}

func TestWrapGivesBackWhatWasOpened(t *testing.T) {
	opened := 0
	check := func(escaped []byte) {
		plain, errno, _ := escape.Open(escaped)
		if errno != api.OK {
			return
		}
		opened++
		if got := escape.Wrap(plain); !bytes.Equal(got, escaped) {
			t.Errorf("Open(%x) = %x, of which Wrap gives %x", escaped, plain, got)
		}
	}
	eachShort(5, check)
	r := source()
	for range 5000 {
		check(anyBytes(r, r.Intn(12)))
		check(goodBytes(r, r.Intn(300)))
	}
	if opened < 5000 {
		t.Errorf("only %d lists were opened", opened)
	}
}
