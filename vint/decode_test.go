package vint_test

import (
	"bytes"
	"math"
	"math/rand"
	"testing"

	"salvor/api"
	"salvor/vint"
)

// nine are bytes none of which ends a varint.
var nine = bytes.Repeat([]byte{0xff}, 9)

// behind lays bytes behind others, in memory of their own.
func behind(b []byte, more ...byte) []byte { return append(bytes.Clone(b), more...) }

// decodeByWords is what the chapter says of Decode, in its order.
func decodeByWords(b []byte) (uint64, int, api.Errno) {
	k := 0
	for i := min(len(b), 10) - 1; i >= 0; i-- {
		if b[i] < 128 {
			k = i + 1
		}
	}
	switch {
	case k == 0 && len(b) >= 10:
		return 0, 0, api.ErrVintLong
	case k == 0:
		return 0, 0, api.ErrVintShort
	case k == 10 && b[k-1] > 1:
		return 0, 0, api.ErrVintLong
	case k > 1 && b[k-1] == 0:
		return 0, 0, api.ErrVintCanon
	}
	var n uint64
	for i := k - 1; i >= 0; i-- {
		n = n*128 + uint64(b[i]%128)
	}
	return n, k, api.OK
}

func checkDecode(t *testing.T, b []byte, n uint64, k int, errno api.Errno) {
	t.Helper()
	if gotN, gotK, got := vint.Decode(b); gotN != n || gotK != k || got != errno {
		t.Errorf("Decode(%x) = %d, %d, %d, want %d, %d, %d", b, gotN, gotK, got, n, k, errno)
	}
}

func TestDecodeKnownNumbers(t *testing.T) {
	checkDecode(t, []byte{0x00}, 0, 1, api.OK)
	checkDecode(t, []byte{0x7f}, 127, 1, api.OK)
	checkDecode(t, []byte{0x80, 0x01}, 128, 2, api.OK)
	checkDecode(t, []byte{0xac, 0x02}, 300, 2, api.OK)
	checkDecode(t, []byte{0xff, 0x7f}, 16383, 2, api.OK)
	checkDecode(t, behind(nine[:8], 0x7f), 1<<63-1, 9, api.OK)
	checkDecode(t, behind(bytes.Repeat([]byte{0x80}, 9), 0x01), 1<<63, 10, api.OK)
	checkDecode(t, behind(nine, 0x01), math.MaxUint64, 10, api.OK)
}

func TestDecodeDoesNotLookBehind(t *testing.T) {
	for _, tail := range [][]byte{{0x00}, {0x01}, {0x80}, {0xff}, {0x00, 0x00}, behind(nine, 0xff, 0xff, 0x02)} {
		checkDecode(t, behind([]byte{0x00}, tail...), 0, 1, api.OK)
		checkDecode(t, behind([]byte{0x7f}, tail...), 127, 1, api.OK)
		checkDecode(t, behind([]byte{0xac, 0x02}, tail...), 300, 2, api.OK)
		checkDecode(t, behind(behind(nine, 0x01), tail...), math.MaxUint64, 10, api.OK)
		checkDecode(t, behind([]byte{0x80, 0x00}, tail...), 0, 0, api.ErrVintCanon)
		checkDecode(t, behind(behind(nine, 0x02), tail...), 0, 0, api.ErrVintLong)
	}
}

func TestDecodeTooShort(t *testing.T) {
	checkDecode(t, nil, 0, 0, api.ErrVintShort)
	checkDecode(t, []byte{}, 0, 0, api.ErrVintShort)
	for count := 1; count <= 9; count++ {
		checkDecode(t, nine[:count], 0, 0, api.ErrVintShort)
		checkDecode(t, bytes.Repeat([]byte{0x80}, count), 0, 0, api.ErrVintShort)
	}
	// what stands in the spare room is no part of a list
	whole := []byte{0x80, 0x01}
	checkDecode(t, whole[:1], 0, 0, api.ErrVintShort)
	checkDecode(t, whole[:0], 0, 0, api.ErrVintShort)
}

func TestDecodeTooLong(t *testing.T) {
	for _, count := range []int{10, 11, 12, 100} {
		checkDecode(t, bytes.Repeat([]byte{0xff}, count), 0, 0, api.ErrVintLong)
		checkDecode(t, bytes.Repeat([]byte{0x80}, count), 0, 0, api.ErrVintLong)
		// an end that comes behind the tenth byte comes too late, whatever it is
		for _, last := range []byte{0x00, 0x01, 0x02, 0x7f} {
			checkDecode(t, behind(bytes.Repeat([]byte{0x81}, count), last), 0, 0, api.ErrVintLong)
		}
	}
}

func TestDecodeTenthByte(t *testing.T) {
	for last := range 256 {
		b := behind(nine, byte(last))
		switch {
		case last == 0:
			checkDecode(t, b, 0, 0, api.ErrVintCanon)
		case last == 1:
			checkDecode(t, b, math.MaxUint64, 10, api.OK)
		default:
			checkDecode(t, b, 0, 0, api.ErrVintLong)
		}
	}
}

func TestDecodeLastByteNought(t *testing.T) {
	for count := 1; count <= 9; count++ {
		checkDecode(t, behind(nine[:count], 0x00), 0, 0, api.ErrVintCanon)
		checkDecode(t, behind(bytes.Repeat([]byte{0x80}, count), 0x00), 0, 0, api.ErrVintCanon)
		checkDecode(t, behind(nine[:count], 0x00, 0x01), 0, 0, api.ErrVintCanon)
	}
	// a nought within is none at the end
	checkDecode(t, []byte{0x80, 0x80, 0x01}, 1<<14, 3, api.OK)
}

func TestDecodeOfAllShortLists(t *testing.T) {
	for a := range 256 {
		checkByWords(t, []byte{byte(a)})
		for b := range 256 {
			checkByWords(t, []byte{byte(a), byte(b)})
			checkByWords(t, []byte{byte(a), byte(b), 0x00})
			checkByWords(t, []byte{byte(a), byte(b), 0x05})
		}
	}
}

func checkByWords(t *testing.T, b []byte) {
	t.Helper()
	n, k, errno := decodeByWords(b)
	checkDecode(t, b, n, k, errno)
}

// anyBytes are bytes of which most go on and few end, so that varints of all lengths come up.
func anyBytes(r *rand.Rand, count int) []byte {
	b := make([]byte, count)
	goOn := r.Intn(20)
	for i := range b {
		b[i] = byte(r.Intn(128))
		if r.Intn(20) < goOn {
			b[i] |= 128
		} else if r.Intn(2) == 0 {
			b[i] %= 3
		}
	}
	return b
}

func TestDecodeIsWhatTheWordsSay(t *testing.T) {
	r := source()
	for range 20000 {
		checkByWords(t, anyBytes(r, r.Intn(14)))
	}
}

func TestDecodeReadsWhatEncodeWrote(t *testing.T) {
	r := source()
	for _, n := range append(edges(), anyNumbers(r, 2000)...) {
		b := vint.Encode(n)
		checkDecode(t, b, n, len(b), api.OK)
		checkDecode(t, behind(b, anyBytes(r, r.Intn(12))...), n, len(b), api.OK)
	}
}

func TestEncodeWritesWhatDecodeTook(t *testing.T) {
	r := source()
	taken := 0
	for range 20000 {
		b := anyBytes(r, r.Intn(14))
		n, k, errno := vint.Decode(b)
		if errno != api.OK {
			continue
		}
		taken++
		if got := vint.Encode(n); !bytes.Equal(got, b[:k]) {
			t.Errorf("Decode(%x) = %d, whose varint is %x", b, n, got)
		}
	}
	if taken < 1000 {
		t.Errorf("only %d lists were taken", taken)
	}
}

func TestNoVarintBeginsAnother(t *testing.T) {
	r := source()
	for _, n := range append(edges(), anyNumbers(r, 500)...) {
		b := vint.Encode(n)
		for cut := range b {
			checkDecode(t, b[:cut], 0, 0, api.ErrVintShort)
		}
		for _, m := range edges() {
			if m != n && bytes.HasPrefix(b, vint.Encode(m)) {
				t.Errorf("the varint of %d begins with that of %d", n, m)
			}
		}
	}
}
