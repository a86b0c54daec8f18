package vint_test

import (
	"bytes"
	"encoding/binary"
	"math"
	"math/rand"
	"testing"

	"salvor/vint"
)

func source() *rand.Rand { return rand.New(rand.NewSource(2)) }

// anyNumber is a number of any count of bits, so that short ones come as often as long ones.
func anyNumber(r *rand.Rand) uint64 { return r.Uint64() >> r.Intn(64) }

func anyNumbers(r *rand.Rand, count int) []uint64 {
	l := make([]uint64, count)
	for i := range l {
		l[i] = anyNumber(r)
	}
	return l
}

// edges are the numbers on both sides of each change of length, of varints and of digits.
func edges() []uint64 {
	l := []uint64{0, 1, 2, 300, math.MaxUint64 - 1, math.MaxUint64}
	for bits := 7; bits <= 63; bits += 7 {
		l = append(l, 1<<bits-2, 1<<bits-1, 1<<bits, 1<<bits+1)
	}
	return append(l, 1<<63-1, 1<<63, 1<<32-1, 1<<32)
}

// byWords is what the chapter says of a varint, bit for bit.
func byWords(n uint64) []byte {
	count := 1
	for bit := range 64 {
		if n>>bit&1 == 1 {
			count = bit/7 + 1
		}
	}
	b := make([]byte, count)
	for bit := range 7 * count {
		if bit < 64 && n>>bit&1 == 1 {
			b[bit/7] += 1 << (bit % 7)
		}
	}
	for i := range count - 1 {
		b[i] += 128
	}
	return b
}

func checkEncode(t *testing.T, want []byte, l ...uint64) {
	t.Helper()
	if got := vint.Encode(l...); !bytes.Equal(got, want) {
		t.Errorf("Encode(%d) = %x, want %x", l, got, want)
	}
	if got := vint.Size(l...); got != len(want) {
		t.Errorf("Size(%d) = %d, want %d", l, got, len(want))
	}
}

func TestEncodeKnownNumbers(t *testing.T) {
	checkEncode(t, []byte{0x00}, 0)
	checkEncode(t, []byte{0x01}, 1)
	checkEncode(t, []byte{0x7f}, 127)
	checkEncode(t, []byte{0x80, 0x01}, 128)
	checkEncode(t, []byte{0xff, 0x7f}, 16383)
	checkEncode(t, []byte{0x80, 0x80, 0x01}, 16384)
	checkEncode(t, []byte{0x00, 0x7f, 0x80, 0x01, 0xac, 0x02}, 0, 127, 128, 300)
	checkEncode(t, []byte{0xff, 0xff, 0xff, 0xff, 0xff, 0xff, 0xff, 0xff, 0x7f}, 1<<63-1)
	checkEncode(t, []byte{0x80, 0x80, 0x80, 0x80, 0x80, 0x80, 0x80, 0x80, 0x80, 0x01}, 1<<63)
	checkEncode(t, []byte{0xff, 0xff, 0xff, 0xff, 0xff, 0xff, 0xff, 0xff, 0xff, 0x01}, math.MaxUint64)
}

func TestEncodeNoNumber(t *testing.T) {
	checkEncode(t, nil)
	checkEncode(t, nil, []uint64(nil)...)
	checkEncode(t, nil, []uint64{}...)
	checkEncode(t, nil, []uint64{5, 300}[:0]...)
}

func TestEncodeIsWhatTheWordsSay(t *testing.T) {
	r := source()
	for _, n := range append(edges(), anyNumbers(r, 2000)...) {
		want := byWords(n)
		if other := binary.AppendUvarint(nil, n); !bytes.Equal(other, want) {
			t.Fatalf("the test is wrong about %d: %x, or %x", n, want, other)
		}
		checkEncode(t, want, n)
	}
}

func TestEncodeInOrder(t *testing.T) {
	r := source()
	checkEncode(t, []byte{0x01, 0x02}, 1, 2)
	checkEncode(t, []byte{0x02, 0x01, 0x01}, 2, 1, 1)
	for count := range 100 {
		l := anyNumbers(r, count)
		var want []byte
		for _, n := range l {
			want = append(want, byWords(n)...)
		}
		checkEncode(t, want, l...)
	}
	checkEncode(t, make([]byte, 5000), make([]uint64, 5000)...)
}

// so few bytes that the number would not fit into fewer
func TestEncodeTakesFewBytes(t *testing.T) {
	r := source()
	for _, n := range append(edges(), anyNumbers(r, 2000)...) {
		k := len(vint.Encode(n))
		if k < 1 || k > 10 || k > 1 && n < 1<<(7*(k-1)) || k < 10 && n >= 1<<(7*k) {
			t.Errorf("Encode(%d) has %d bytes", n, k)
		}
	}
}
