package scan_test

import (
	"bytes"
	"slices"
	"testing"

	"salvor/api"
	"salvor/scan"
)

// located are all frames, as Records tells them of all kinds.
func located(b []byte) []api.Located {
	return scan.Records(b, api.Put, api.Delete, api.Hint, api.Foot)
}

// mixed is bytes with frames of all kinds, and with some that lack a byte, or have another one.
func mixed() []byte {
	k := ofEachKind()
	d, h, f := whole(k[1]), whole(k[2]), whole(k[3])
	wrong, split := []byte(d), []byte(small)
	wrong[6] ^= 1
	split[8] = 0xa7
	return []byte("x" + small + lead + d + string(wrong) + h + "\xa7\x00\x00\x05" + f + string(split) + small + small[:13])
}

func TestPartsHaveTheFramesThatLieInThemWhole(t *testing.T) {
	lists := [][]byte{mixed(), []byte(small + small + small)}
	r := source()
	for range 5 {
		lists = append(lists, anyBytes(r, 6))
	}
	for _, b := range lists {
		all := located(b)
		for i := 0; i <= len(b); i++ {
			for j := i; j <= len(b); j++ {
				var want []api.Located
				for _, l := range all {
					if l.At >= i && l.At+l.Len <= j {
						want = append(want, api.Located{Frame: l.Frame, At: l.At - i, Len: l.Len})
					}
				}
				if got := located(b[i:j]); !slices.Equal(got, want) {
					t.Fatalf("of %x from %d to %d: %v, want %v", b, i, j, got, want)
				}
			}
		}
	}
}

func holds(l api.Located, at int) bool { return l.At <= at && at < l.At+l.Len }

// checkChange writes a byte at a place, and tells how many frames came to be and how many went.
func checkChange(t *testing.T, b []byte, at int, c byte) (came, went int) {
	t.Helper()
	before := located(b)
	old := b[at]
	b[at] = c
	after := located(b)
	b[at] = old
	for _, l := range before {
		if !slices.Contains(after, l) {
			went++
			if !holds(l, at) {
				t.Fatalf("of %x, with %x at %d, the frame at %d is gone", b, c, at, l.At)
			}
		}
	}
	for _, l := range after {
		if !slices.Contains(before, l) {
			came++
			if !holds(l, at) {
				t.Fatalf("of %x, with %x at %d, a frame has come to be at %d", b, c, at, l.At)
			}
		}
	}
	return came, went
}

func TestAByteChangesNoFrameThatDoesNotHoldIt(t *testing.T) {
	b := mixed()
	came, went := 0, 0
	for at := range b {
		for c := range 256 {
			if byte(c) != api.Lead && byte(c) != b[at] {
				more, fewer := checkChange(t, b, at, byte(c))
				came, went = came+more, went+fewer
			}
		}
	}
	if came < 2 || went < 1000 { // the one with a wrong byte and the one with a lead byte within can both be mended
		t.Errorf("%d frames came to be, %d went", came, went)
	}
	r := source()
	for range 300 {
		b := anyBytes(r, 6)
		for at := range b {
			if c := byte(r.Intn(256)); c != api.Lead {
				checkChange(t, b, at, c)
			}
		}
	}
}

func TestBehindCleanBytesOthersAreCutAsTheyAre(t *testing.T) {
	r := source()
	seconds := edges()
	for range 100 {
		seconds = append(seconds, anyBytes(r, r.Intn(8)), cleanBytes(r, r.Intn(4)))
	}
	for _, second := range seconds {
		for frames := range 4 {
			first := cleanBytes(r, frames)
			want := scan.Extents(first)
			for _, x := range scan.Extents(second) {
				x.At += len(first)
				want = append(want, x)
			}
			if got := scan.Extents(slices.Concat(first, second)); !slices.Equal(got, want) {
				t.Fatalf("of %x and %x: %v, want %v", first, second, got, want)
			}
		}
	}
}

func TestWhatIsCleanStaysAsItIs(t *testing.T) {
	r := source()
	for count := range 60 {
		b := cleanBytes(r, count%12)
		if got := scan.Clean(b); !bytes.Equal(got, b) {
			t.Fatalf("Clean(%x) = %x", b, got)
		}
	}
	for _, b := range some() {
		once := scan.Clean(b)
		if twice := scan.Clean(once); !bytes.Equal(twice, once) {
			t.Fatalf("Clean(%x) = %x, and of that %x", b, once, twice)
		}
		for _, x := range scan.Extents(once) {
			if x.Junk {
				t.Fatalf("Clean(%x) = %x, which has junk", b, once)
			}
		}
	}
}

func TestCleanHasTheSameFramesInTheSameOrder(t *testing.T) {
	for _, b := range some() {
		want := located(b)
		end := 0
		for i := range want { // side by side now
			want[i].At = end
			end += want[i].Len
		}
		clean := scan.Clean(b)
		if got := located(clean); !slices.Equal(got, want) || len(clean) != end {
			t.Fatalf("Clean(%x) = %x has %v, want %v", b, clean, got, want)
		}
	}
}

// Each call cuts in the one way in which the bytes are cut.
func TestAllCallsTellTheSame(t *testing.T) {
	for _, b := range some() {
		var byNext, byFrames []api.Extent
		for at, size := scan.Next(b, 0); size > 0; at, size = scan.Next(b, at+size) {
			byNext = append(byNext, isFrame(at, size))
		}
		for at, f := range scan.Frames(b) {
			byFrames = append(byFrames, isFrame(at, len(whole(f))))
		}
		want := scan.Extents(b)
		want = slices.DeleteFunc(want, func(x api.Extent) bool { return x.Junk })
		if !slices.Equal(byNext, want) || !slices.Equal(byFrames, want) {
			t.Fatalf("of %x Next tells %v, Frames %v, Extents %v", b, byNext, byFrames, want)
		}
	}
}
