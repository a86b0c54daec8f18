package segment_test

import (
	"strings"
	"testing"

	"salvor/api"
	"salvor/segment"
)

func checkPrint(t *testing.T, s string, frames int) {
	t.Helper()
	want := api.Print{Bytes: len(s), Frames: frames, Sum: sumByWords(s)}
	if got := segment.Print([]byte(s)); got != want {
		t.Errorf("Print(%.60x) = %v, want %v", s, got, want)
	}
}

func TestPrintOfNothing(t *testing.T) {
	b := []byte(whole(put(1, "k", "v")))
	for _, none := range [][]byte{nil, {}, b[:0], b[14:]} {
		if got := segment.Print(none); got != (api.Print{}) {
			t.Errorf("Print of nothing = %v", got)
		}
	}
}

// Of the document's first frame, byte by byte; and the sum by which everybody knows CRC-32C.
func TestPrintOfTheSmallFrame(t *testing.T) {
	b := []byte("\xa7\x00\x00\x05\x01\x01\x01kv\x0e\x7d\x39\x08\x4c")
	if got, want := segment.Print(b), (api.Print{Bytes: 14, Frames: 1, Sum: sumByWords(string(b))}); got != want {
		t.Errorf("Print = %v, want %v", got, want)
	}
	if got, want := segment.Print([]byte("123456789")), (api.Print{Bytes: 9, Sum: 0xe3069283}); got != want {
		t.Errorf("Print = %v, want %v", got, want)
	}
}

func TestPrintOfFramesOfAllKinds(t *testing.T) {
	kinds := []string{whole(put(1, "k", "v")), whole(gone(2, "k")), hintFrame(3, "k"), footFrame(1)}
	all := ""
	for i, f := range kinds {
		checkPrint(t, f, 1)
		checkPrint(t, f+f+f, 3)
		all += f
		checkPrint(t, all, i+1)
	}
	long := whole(put(1<<64-1, strings.Repeat("\xa7", 64), strings.Repeat("\xa7", 2048)))
	checkPrint(t, long, 1)
	checkPrint(t, all+long+all, 9)
	checkPrint(t, strings.Repeat(all, 5000), 20000)
}

func TestPrintOfJunk(t *testing.T) {
	small := whole(put(1, "k", "v"))
	for _, s := range []string{"x", "\xa7", "\x00\xa7\xa7", small[1:], small[:13], strings.Replace(small, "k", "j", 1), framed("\x05\x01\x01k"), strings.Repeat("\xa7", 5000)} {
		checkPrint(t, s, 0)
	}
	if got, want := segment.Print([]byte(small)[:13]), (api.Print{Bytes: 13, Sum: sumByWords(small[:13])}); got != want {
		t.Errorf("of a list that ends within a frame: %v, want %v", got, want)
	}
}

func TestPrintOfFramesAmongJunk(t *testing.T) {
	a, b := whole(put(1, "k", "v")), whole(gone(2, "k"))
	checkPrint(t, "x"+a, 1)
	checkPrint(t, a+"x", 1)
	checkPrint(t, a+"x"+b, 2)
	checkPrint(t, "\xa7"+a+"\xa7\xa7"+b+"\xa7", 2)
	checkPrint(t, "\xa7\x00\x00\x05"+a+footFrame(3)+"yz"+hintFrame(1, "k")+a[:13], 3)
	checkPrint(t, a[:7]+b+a[7:], 1)
	checkPrint(t, strings.Repeat("x"+a, 3000), 3000)
}
