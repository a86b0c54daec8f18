package crc_test

import (
	"math"
	"testing"

	"salvor/api"
	"salvor/crc"
)

// order: so many bytes 0 multiply by x^8 to the power 2^31 - 1, which is 1: the divisor is x + 1 times one of degree 31 that has no lesser order.
const order = 1<<31 - 1

func join(t *testing.T, a, b uint32, n int) uint32 {
	t.Helper()
	sum, errno := crc.Join(a, b, n)
	if errno != api.OK {
		t.Errorf("Join(%08x, %08x, %d): error %d", a, b, n, errno)
	}
	return sum
}

// byWords is what the chapter says of Join, done as it stands.
func byWords(a, b uint32, n int) uint32 {
	noughts := make([]byte, n)
	return crc.Bitwise(a, noughts) ^ crc.Bitwise(0, noughts) ^ b
}

func TestJoinOfTwoTexts(t *testing.T) {
	one, other := []byte("1234"), []byte("56789")
	if got := join(t, crc.Sum(one), crc.Sum(other), 5); got != 0xe3069283 {
		t.Errorf("Join of 1234 and 56789 = %08x", got)
	}
	r := source()
	for range 500 {
		one, other := text(r, r.Intn(300)), text(r, r.Intn(300))
		want := crc.Sum(one, other)
		if got := join(t, crc.Sum(one), crc.Sum(other), len(other)); got != want {
			t.Errorf("Join of %d and %d bytes = %08x, want %08x", len(one), len(other), got, want)
		}
	}
}

func TestJoinWithNothing(t *testing.T) {
	b := []byte("a text")
	sum := crc.Sum(b)
	if got := join(t, sum, 0, 0); got != sum {
		t.Errorf("a text, and nothing behind it: %08x, want %08x", got, sum)
	}
	if got := join(t, 0, sum, len(b)); got != sum {
		t.Errorf("nothing, and a text behind it: %08x, want %08x", got, sum)
	}
	if got := join(t, 0, 0, 0); got != 0 {
		t.Errorf("nothing and nothing: %08x", got)
	}
}

// Also of a b that no n bytes have: of 0 to 3 bytes most sums are none.
func TestJoinOfAnyNumbers(t *testing.T) {
	r := source()
	for n := range 300 {
		for _, b := range append([]uint32{r.Uint32()}, starts...) {
			a := r.Uint32()
			if got, want := join(t, a, b, n), byWords(a, b, n); got != want {
				t.Errorf("Join(%08x, %08x, %d) = %08x, want %08x", a, b, n, got, want)
			}
		}
	}
	if got := join(t, 0x12345678, 0x9abcdef0, 0); got != 0x12345678^0x9abcdef0 {
		t.Errorf("Join(12345678, 9abcdef0, 0) = %08x", got)
	}
}

func TestJoinDoesNotMindTheParts(t *testing.T) {
	r := source()
	for range 200 {
		b := text(r, r.Intn(1000))
		joined := uint32(0)
		for _, part := range cutAnywhere(r, b) {
			joined = join(t, joined, crc.Sum(part), len(part))
		}
		if want := crc.Sum(b); joined != want {
			t.Errorf("%d bytes joined part by part = %08x, want %08x", len(b), joined, want)
		}
	}
}

func TestJoinOfOneAndTheOtherTwo(t *testing.T) {
	r := source()
	for range 200 {
		a, b, c := r.Uint32(), r.Uint32(), r.Uint32()
		m, n := r.Intn(1<<40), r.Intn(1<<40)
		left := join(t, join(t, a, b, m), c, n)
		right := join(t, a, join(t, b, c, n), m+n)
		if left != right {
			t.Errorf("%08x, %08x of %d bytes, %08x of %d: %08x or %08x", a, b, m, c, n, left, right)
		}
	}
}

func TestJoinOfGreatLengths(t *testing.T) {
	r := source()
	for range 100 {
		a, b := r.Uint32(), r.Uint32()
		small := r.Intn(50)
		want := byWords(a, b, small)
		for _, turns := range []int{1, 2, 1000, 1<<32 - 1} {
			if got := join(t, a, b, turns*order+small); got != want {
				t.Errorf("Join(%08x, %08x, %d) = %08x, want %08x", a, b, turns*order+small, got, want)
			}
		}
		// 2^63 - 1 is 1 more than a multiple of the order
		if got := join(t, a, b, math.MaxInt); got != byWords(a, b, 1) {
			t.Errorf("Join(%08x, %08x, greatest int) = %08x, want %08x", a, b, got, byWords(a, b, 1))
		}
	}
}

// byte for byte this would take years
func TestJoinTakesFewSteps(t *testing.T) {
	sum := uint32(1)
	for i := range 10000 {
		sum = join(t, sum, 0, math.MaxInt-i)
	}
	if sum == 0 {
		t.Error("a sum that is not 0 came to 0 by noughts alone")
	}
}

func TestJoinOfLengthBelowNothing(t *testing.T) {
	for _, n := range []int{-1, -2, -8, math.MinInt + 1, math.MinInt} {
		for _, a := range starts {
			if got, errno := crc.Join(a, 0x9abcdef0, n); got != 0 || errno != api.ErrCrcArg {
				t.Errorf("Join(%08x, 9abcdef0, %d) = %08x, %d, want 0, %d", a, n, got, errno, api.ErrCrcArg)
			}
		}
	}
	if api.ErrCrcArg != 10 {
		t.Errorf("ErrCrcArg is %d", api.ErrCrcArg)
	}
}
