package frame_test

import (
	"bytes"
	"testing"

	"salvor/api"
	"salvor/frame"
)

// flip turns the bits of a run that begins at a bit, the lowest bit of each byte first; pattern tells which of the run.
func flip(b []byte, from int, pattern uint32) []byte {
	b = bytes.Clone(b)
	for i := range 32 {
		if pattern>>i&1 == 1 {
			b[(from+i)/8] ^= 1 << ((from + i) % 8)
		}
	}
	return b
}

// checkBurst turns a run of so many bits, the first and the last and any between, in the escaped body.
func checkBurst(t *testing.T, whole []byte, from, count int, between uint32) {
	t.Helper()
	pattern := (between | 1 | 1<<(count-1)) & (1<<count - 1)
	b := flip(whole, from, pattern)
	want := api.ErrFrameSum
	if bytes.IndexByte(b[4:len(b)-5], 0xa7) >= 0 {
		want = api.ErrFrameForm
	}
	if f, size, errno := frame.Decode(b, 0); f != (api.Frame{}) || size != 0 || errno != want {
		t.Fatalf("of %x, turned at %d by %x, Decode(%x, 0) = %v, %d, %d, want %d", whole, from, pattern, b, f, size, errno, want)
	}
}

func TestBurstsInTheBodyAreSeen(t *testing.T) {
	r := source()
	for _, f := range []api.Frame{
		put(1, "k", "v"), put(1<<64-1, "\xa7\xa6", "\xa6\xa7\x00\x01"), put(7, "key", anyText(r, 40)),
		gone(300, "key"), hint(5, api.Delete, 166, 4194304, "key"), foot(2, 300, 2, 1<<32-1), foot(0, 0, 0, 0),
	} {
		b := frameByWords(f)
		first, end := 8*4, 8*(len(b)-5)
		for from := first; from < end; from++ {
			for count := 1; count <= 32 && from+count <= end; count++ {
				for range 3 {
					checkBurst(t, b, from, count, r.Uint32())
				}
				checkBurst(t, b, from, count, 0)
				checkBurst(t, b, from, count, 1<<32-1)
			}
		}
	}
}

func TestBurstsInLongBodiesAreSeen(t *testing.T) {
	r := source()
	for range 3000 {
		b := frameByWords(put(anyLSN(r), anyKey(r), anyText(r, r.Intn(2049))))
		count := 1 + r.Intn(32)
		first, end := 8*4, 8*(len(b)-5)
		checkBurst(t, b, first+r.Intn(end-first-count+1), count, r.Uint32())
	}
}

// Where digits of the sum alone are changed, some or all of them, into whatever, the sum is another one or none.
func TestChangedSumsAreSeen(t *testing.T) {
	r := source()
	for range 20000 {
		b := frameByWords(anyFrame(r))
		sum := b[len(b)-5:]
		before := bytes.Clone(sum)
		for range 1 + r.Intn(5) {
			sum[r.Intn(5)] = pick(r, byte(r.Intn(128)), byte(r.Intn(16)), byte(r.Intn(256)), 0x80, 0xa7)
		}
		if bytes.Equal(sum, before) {
			continue
		}
		checkUnread(t, b, 0, api.ErrFrameSum)
	}
}
