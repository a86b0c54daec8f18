package vint_test

import (
	"bytes"
	"cmp"
	"math"
	"testing"

	"salvor/api"
	"salvor/vint"
)

// wrongCounts are counts of digits that may not be.
var wrongCounts = []int{0, -1, -9, 10, 11, 64, 1 << 32, 1<<32 + 1, 1<<62 + 3, math.MaxInt, math.MinInt, math.MinInt + 1}

func checkDigits(t *testing.T, n uint64, count int, want []byte, errno api.Errno) {
	t.Helper()
	if got, e := vint.Digits(n, count); !bytes.Equal(got, want) || e != errno {
		t.Errorf("Digits(%d, %d) = %x, %d, want %x, %d", n, count, got, e, want, errno)
	}
}

func checkNumber(t *testing.T, b []byte, count int, want uint64, errno api.Errno) {
	t.Helper()
	if got, e := vint.Number(b, count); got != want || e != errno {
		t.Errorf("Number(%x, %d) = %d, %d, want %d, %d", b, count, got, e, want, errno)
	}
}

// most is the greatest number of so many digits.
func most(count int) uint64 { return 1<<(7*count) - 1 }

func TestDigitsOfKnownNumbers(t *testing.T) {
	checkDigits(t, 300, 3, []byte{0x00, 0x02, 0x2c}, api.OK)
	checkDigits(t, 300, 2, []byte{0x02, 0x2c}, api.OK)
	checkDigits(t, 0, 1, []byte{0x00}, api.OK)
	checkDigits(t, 127, 1, []byte{0x7f}, api.OK)
	checkDigits(t, 128, 2, []byte{0x01, 0x00}, api.OK)
	checkDigits(t, 1<<32-1, 5, []byte{0x0f, 0x7f, 0x7f, 0x7f, 0x7f}, api.OK)
	checkDigits(t, 1<<63-1, 9, bytes.Repeat([]byte{0x7f}, 9), api.OK)
	checkDigits(t, 1<<62, 9, []byte{0x40, 0, 0, 0, 0, 0, 0, 0, 0}, api.OK)
}

func TestDigitsThatJustFit(t *testing.T) {
	for count := 1; count <= 9; count++ {
		checkDigits(t, 0, count, make([]byte, count), api.OK)
		checkDigits(t, most(count), count, bytes.Repeat([]byte{0x7f}, count), api.OK)
		for _, n := range []uint64{most(count) + 1, most(count) + 2, math.MaxUint64} {
			checkDigits(t, n, count, nil, api.ErrVintDigit)
		}
	}
}

func TestDigitsOfWrongCounts(t *testing.T) {
	for _, count := range wrongCounts {
		for _, n := range []uint64{0, 1, 127, 1 << 63, math.MaxUint64} { // also if it would not fit
			checkDigits(t, n, count, nil, api.ErrVintArg)
		}
	}
}

func TestDigitsAreSevenBitsEach(t *testing.T) {
	r := source()
	for range 2000 {
		count := 1 + r.Intn(9)
		n := anyNumber(r) & most(count)
		want := make([]byte, count)
		for i, rest := count-1, n; i >= 0; i, rest = i-1, rest/128 {
			want[i] = byte(rest % 128)
		}
		checkDigits(t, n, count, want, api.OK)
	}
}

func TestNumberOfKnownDigits(t *testing.T) {
	checkNumber(t, []byte{0x02, 0x2c}, 2, 300, api.OK)
	checkNumber(t, []byte{0x00, 0x00, 0x01}, 3, 1, api.OK)
	checkNumber(t, []byte{0x00}, 1, 0, api.OK)
	checkNumber(t, []byte{0x7f}, 1, 127, api.OK)
	checkNumber(t, []byte{0x0f, 0x7f, 0x7f, 0x7f, 0x7f}, 5, 1<<32-1, api.OK)
	for count := 1; count <= 9; count++ {
		checkNumber(t, bytes.Repeat([]byte{0x7f}, count), count, most(count), api.OK)
		checkNumber(t, make([]byte, count), count, 0, api.OK)
	}
}

func TestNumberDoesNotLookBehind(t *testing.T) {
	checkNumber(t, []byte{0x02, 0x2c, 0x80}, 2, 300, api.OK)
	for count := 1; count <= 9; count++ {
		for _, tail := range [][]byte{{0x00}, {0x7f}, {0x80}, {0xff, 0xff}, bytes.Repeat([]byte{0xa7}, 20)} {
			checkNumber(t, behind(bytes.Repeat([]byte{0x7f}, count), tail...), count, most(count), api.OK)
		}
	}
}

func TestNumberOfWrongCounts(t *testing.T) {
	for _, count := range wrongCounts {
		// also if there are too few bytes, or one that is no digit
		for _, b := range [][]byte{nil, {}, {0x01}, {0x80}, make([]byte, 20), bytes.Repeat([]byte{0xff}, 20)} {
			checkNumber(t, b, count, 0, api.ErrVintArg)
		}
	}
}

func TestNumberOfTooFewBytes(t *testing.T) {
	whole := []byte{1, 2, 3, 4, 5, 6, 7, 8, 9}
	for count := 1; count <= 9; count++ {
		checkNumber(t, nil, count, 0, api.ErrVintShort)
		checkNumber(t, []byte{}, count, 0, api.ErrVintShort)
		for have := range count {
			checkNumber(t, whole[:have], count, 0, api.ErrVintShort) // what stands in the spare room is no part of it
			checkNumber(t, bytes.Repeat([]byte{0x80}, have), count, 0, api.ErrVintShort)
		}
	}
}

func TestNumberOfWhatIsNoDigit(t *testing.T) {
	for count := 1; count <= 9; count++ {
		for at := range count {
			for _, bad := range []byte{0x80, 0x81, 0xa7, 0xff} {
				b := bytes.Repeat([]byte{0x01}, count+3)
				b[at] = bad
				checkNumber(t, b[:count], count, 0, api.ErrVintDigit)
				checkNumber(t, b, count, 0, api.ErrVintDigit)
			}
		}
	}
}

func TestNumberReadsWhatDigitsWrote(t *testing.T) {
	r := source()
	for range 2000 {
		count := 1 + r.Intn(9)
		n := anyNumber(r) & most(count)
		b, errno := vint.Digits(n, count)
		if errno != api.OK || len(b) != count {
			t.Fatalf("Digits(%d, %d) = %x, %d", n, count, b, errno)
		}
		checkNumber(t, b, count, n, api.OK)
		checkNumber(t, behind(b, anyBytes(r, r.Intn(5))...), count, n, api.OK)
	}
}

func TestDigitsWritesWhatNumberTook(t *testing.T) {
	r := source()
	for range 2000 {
		count := 1 + r.Intn(9)
		b := make([]byte, count)
		for i := range b {
			b[i] = byte(r.Intn(128))
		}
		n, errno := vint.Number(b, count)
		if errno != api.OK {
			t.Fatalf("Number(%x, %d): error %d", b, count, errno)
		}
		checkDigits(t, n, count, b, api.OK)
	}
}

func TestDigitsAreInOrderAsTheirNumbersAre(t *testing.T) {
	r := source()
	for count := 1; count <= 9; count++ {
		var l []uint64
		for _, n := range append(edges(), anyNumbers(r, 50)...) {
			l = append(l, n&most(count))
		}
		for _, n := range l {
			for _, m := range l {
				a, _ := vint.Digits(n, count)
				b, _ := vint.Digits(m, count)
				if bytes.Compare(a, b) != cmp.Compare(n, m) {
					t.Errorf("%d and %d in %d digits: %x and %x", n, m, count, a, b)
				}
			}
		}
	}
}
