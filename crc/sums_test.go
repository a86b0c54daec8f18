package crc_test

import (
	"bytes"
	"hash/crc32"
	"math/rand"
	"sync"
	"testing"

	"salvor/crc"
)

var castagnoli = crc32.MakeTable(crc32.Castagnoli)

// starts are sums to go on from: that of nothing, the other edges, and some between.
var starts = []uint32{0, 1, 0x80000000, 0xffffffff, 0xe3069283, 0x12345678}

func source() *rand.Rand { return rand.New(rand.NewSource(1)) }

func text(r *rand.Rand, n int) []byte {
	b := make([]byte, n)
	r.Read(b)
	return b
}

type way struct {
	name string
	goOn func(uint32, []byte) uint32
}

func ways() []way {
	t := crc.New()
	return []way{{"Bitwise", crc.Bitwise}, {"ByTable", t.ByTable}, {"ByEight", t.ByEight}}
}

// byDivision is the chapter's other telling of the sum: the rest of a polynomial that is divided, bit for bit.
func byDivision(data []byte) uint32 {
	var bits []bool
	for _, b := range data {
		for i := range 8 {
			bits = append(bits, b>>i&1 == 1)
		}
	}
	bits = append(bits, make([]bool, 32)...)
	for i := range 32 {
		bits[i] = !bits[i]
	}
	for i := 0; i+32 < len(bits); i++ {
		if !bits[i] {
			continue
		}
		for k := range 32 { // x^31 stands right behind x^32
			bits[i+1+k] = bits[i+1+k] != (uint32(0x1edc6f41)>>(31-k)&1 == 1)
		}
	}
	var rest uint32
	for k, bit := range bits[len(bits)-32:] {
		if bit {
			rest |= 1 << k
		}
	}
	return ^rest
}

func TestKnownSums(t *testing.T) {
	known := []struct {
		data string
		want uint32
	}{
		{"", 0},
		{"123456789", 0xe3069283},
		{"\x00", 0x527d5351},
		{"\x00\x00\x00\x00", 0x48674bc7},
		{string(make([]byte, 32)), 0x8a9136aa},
		{string(bytes.Repeat([]byte{0xff}, 32)), 0x62a8ab43},
	}
	for _, k := range known {
		for _, w := range ways() {
			if got := w.goOn(0, []byte(k.data)); got != k.want {
				t.Errorf("%s(0, %q) = %08x, want %08x", w.name, k.data, got, k.want)
			}
		}
		if got := crc.Sum([]byte(k.data)); got != k.want {
			t.Errorf("Sum(%q) = %08x, want %08x", k.data, got, k.want)
		}
	}
}

func TestSumIsRestOfDivision(t *testing.T) {
	r := source()
	for n := range 60 {
		b := text(r, n)
		want := byDivision(b)
		for _, w := range ways() {
			if got := w.goOn(0, b); got != want {
				t.Errorf("%s(0, %x) = %08x, want %08x", w.name, b, got, want)
			}
		}
	}
}

func TestSumOfEveryByte(t *testing.T) {
	for v := range 256 {
		for place := range 9 { // alone behind eight, and at each place of eight
			b := make([]byte, 9)
			b[place] = byte(v)
			want := crc32.Checksum(b, castagnoli)
			for _, w := range ways() {
				if got := w.goOn(0, b); got != want {
					t.Errorf("%s(0, %x) = %08x, want %08x", w.name, b, got, want)
				}
			}
		}
	}
}

func TestGoOnFromAnySum(t *testing.T) {
	r := source()
	for n := range 100 {
		b := text(r, n)
		for _, start := range append([]uint32{r.Uint32()}, starts...) {
			want := crc32.Update(start, castagnoli, b)
			for _, w := range ways() {
				if got := w.goOn(start, b); got != want {
					t.Errorf("%s(%08x, %d bytes) = %08x, want %08x", w.name, start, n, got, want)
				}
			}
		}
	}
}

func TestGoOnWithNothing(t *testing.T) {
	for _, start := range starts {
		for _, w := range ways() {
			if got := w.goOn(start, nil); got != start {
				t.Errorf("%s(%08x, nil) = %08x", w.name, start, got)
			}
			if got := w.goOn(start, []byte{}); got != start {
				t.Errorf("%s(%08x, empty) = %08x", w.name, start, got)
			}
		}
	}
}

func TestGoOnFromEveryPlace(t *testing.T) {
	r := source()
	for _, n := range []int{1, 7, 8, 9, 15, 16, 17, 31, 64} {
		b := text(r, n)
		want := crc32.Checksum(b, castagnoli)
		for cut := range n + 1 {
			for _, w := range ways() {
				for _, v := range ways() {
					if got := v.goOn(w.goOn(0, b[:cut]), b[cut:]); got != want {
						t.Errorf("%s, then %s from %d of %d bytes on = %08x, want %08x", w.name, v.name, cut, n, got, want)
					}
				}
			}
		}
	}
}

// Two texts of one sum: what comes behind them cannot tell them apart.
func TestGoOnHangsOnTheSumAlone(t *testing.T) {
	r := source()
	for range 50 {
		one, other := text(r, 10), text(r, 21)
		other = append(other, crc.Forge(crc.Sum(other), crc.Sum(one))...)
		behind := text(r, 13)
		if crc.Sum(one, behind) != crc.Sum(other, behind) {
			t.Errorf("%x and %x have one sum, and not with %x behind them", one, other, behind)
		}
	}
}

func TestNewMakesOthersOfTheSame(t *testing.T) {
	one, other := crc.New(), crc.New()
	if one == nil || other == nil || one == other {
		t.Fatalf("New() = %p, then %p", one, other)
	}
	if *one != *other {
		t.Error("New makes unlike tables")
	}
	before := *one
	*other = crc.Tables{}
	if *one != before {
		t.Error("two Tables share memory")
	}
}

func TestTablesStayAsTheyAre(t *testing.T) {
	x := crc.New()
	before := *x
	b := text(source(), 1000)
	x.ByTable(1, b)
	x.ByEight(1, b)
	if *x != before {
		t.Error("a sum changes its tables")
	}
}

func TestTablesThatNewDidNotMake(t *testing.T) {
	b := []byte("123456789")
	for name, x := range map[string]*crc.Tables{"nil": nil, "of noughts": {}} {
		if got := x.ByTable(0, b); got != 0xe3069283 {
			t.Errorf("Tables %s: ByTable = %08x", name, got)
		}
		if got := x.ByEight(0, b); got != 0xe3069283 {
			t.Errorf("Tables %s: ByEight = %08x", name, got)
		}
	}
}

func TestTablesAskedAtOnce(t *testing.T) {
	x := crc.New()
	shared := text(source(), 3001)
	var group sync.WaitGroup
	var wrong [8]int
	for i := range wrong {
		group.Go(func() {
			b := shared[i:]
			want := crc32.Update(uint32(i), castagnoli, b)
			for range 100 {
				if x.ByTable(uint32(i), b) != want || x.ByEight(uint32(i), b) != want {
					wrong[i]++
				}
			}
		})
	}
	group.Wait()
	if wrong != [8]int{} {
		t.Errorf("wrong sums of each goroutine: %v", wrong)
	}
}

func TestSumOfNoParts(t *testing.T) {
	for name, got := range map[string]uint32{
		"no part":      crc.Sum(),
		"nil list":     crc.Sum([][]byte(nil)...),
		"nil part":     crc.Sum(nil),
		"empty part":   crc.Sum([]byte{}),
		"empty parts":  crc.Sum(nil, []byte{}, nil),
		"many nothing": crc.Sum(make([][]byte, 5000)...),
	} {
		if got != 0 {
			t.Errorf("Sum of %s = %08x", name, got)
		}
	}
}

func TestSumOfParts(t *testing.T) {
	if got := crc.Sum([]byte("1234"), nil, []byte("56789")); got != 0xe3069283 {
		t.Errorf("Sum(1234, nothing, 56789) = %08x", got)
	}
	r := source()
	for _, n := range []int{1, 8, 100, 1000, 1023, 1024, 1025, 2000, 10001} {
		b := text(r, n)
		want := crc32.Checksum(b, castagnoli)
		if got := crc.Sum(b); got != want {
			t.Errorf("Sum of %d bytes = %08x, want %08x", n, got, want)
		}
		for range 20 {
			if parts := cutAnywhere(r, b); crc.Sum(parts...) != want {
				t.Errorf("Sum of %d bytes in %d parts = %08x, want %08x", n, len(parts), crc.Sum(parts...), want)
			}
		}
	}
}

// cutAnywhere cuts a text into parts, some of them empty.
func cutAnywhere(r *rand.Rand, b []byte) [][]byte {
	var parts [][]byte
	for len(b) > 0 {
		n := min(r.Intn(20)*r.Intn(20), len(b))
		parts = append(parts, b[:n])
		b = b[n:]
	}
	return append(parts, nil)
}

func TestSumOfPartsInTheirOrder(t *testing.T) {
	a, b := []byte("salvor"), []byte("log")
	if crc.Sum(a, b) == crc.Sum(b, a) {
		t.Error("the order of parts makes no difference")
	}
	if crc.Sum(a, a) != crc32.Checksum([]byte("salvorsalvor"), castagnoli) {
		t.Error("a part that comes twice is not summed twice")
	}
}

// turnRun turns the first and the last of a run of bits, and of those between what the pattern says.
func turnRun(b []byte, first, length int, pattern uint32) {
	for i := range length {
		if i == 0 || i == length-1 || pattern>>i&1 == 1 {
			b[(first+i)/8] ^= 1 << ((first + i) % 8)
		}
	}
}

func TestRunsOfTurnedBitsChangeTheSum(t *testing.T) {
	r := source()
	b := text(r, 24)
	want := crc.Sum(b)
	for length := 1; length <= 32; length++ {
		for first := 0; first+length <= 8*len(b); first++ {
			for _, pattern := range []uint32{0, 0xffffffff, r.Uint32()} {
				turned := bytes.Clone(b)
				turnRun(turned, first, length, pattern)
				for _, w := range ways() {
					if w.goOn(0, turned) == want {
						t.Errorf("%s: %x and %x have one sum", w.name, b, turned)
					}
				}
			}
		}
	}
}

func TestChangesWithinFourBytesChangeTheSum(t *testing.T) {
	r := source()
	for range 2000 {
		b := text(r, 4+r.Intn(40))
		changed := bytes.Clone(b)
		at := r.Intn(len(b) - 3)
		copy(changed[at:], text(r, 1+r.Intn(4)))
		if !bytes.Equal(b, changed) && crc.Sum(b) == crc.Sum(changed) {
			t.Errorf("%x and %x have one sum", b, changed)
		}
	}
}

func TestTextsPutTogetherBitByBit(t *testing.T) {
	r := source()
	for n := range 200 {
		one, other, both := text(r, n), text(r, n), make([]byte, n)
		for i := range both {
			both[i] = one[i] ^ other[i]
		}
		for _, w := range ways() {
			want := w.goOn(0, one) ^ w.goOn(0, other) ^ w.goOn(0, make([]byte, n))
			if got := w.goOn(0, both); got != want {
				t.Errorf("%s of two texts of %d bytes put together = %08x, want %08x", w.name, n, got, want)
			}
		}
	}
}
