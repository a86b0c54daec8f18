package vint_test

import (
	"bytes"
	"slices"
	"testing"

	"salvor/api"
	"salvor/vint"
)

type told struct {
	at int
	n  uint64
}

func collect(seq func(func(int, uint64) bool)) []told {
	var l []told
	for at, n := range seq {
		l = append(l, told{at, n})
	}
	return l
}

func checkAll(t *testing.T, b []byte, want ...told) {
	t.Helper()
	if got := collect(vint.All(b)); !slices.Equal(got, want) {
		t.Errorf("All(%x) tells %d, want %d", b, got, want)
	}
}

func TestAllTellsPlacesAndNumbers(t *testing.T) {
	checkAll(t, []byte{0x00}, told{0, 0})
	checkAll(t, []byte{0x00, 0x00}, told{0, 0}, told{1, 0})
	checkAll(t, []byte{0x00, 0x7f, 0x80, 0x01, 0xac, 0x02}, told{0, 0}, told{1, 127}, told{2, 128}, told{4, 300})
	checkAll(t, behind(behind(nine, 0x01), 0x05), told{0, 1<<64 - 1}, told{10, 5})
}

func TestAllOfNothing(t *testing.T) {
	for _, b := range [][]byte{nil, {}, {0x01, 0x02}} {
		b = b[:0] // also where numbers stand in the spare room
		if vint.All(b) == nil {
			t.Error("All is nil")
		}
		checkAll(t, b)
	}
}

func TestAllEndsAheadOfWhatDecodeRefuses(t *testing.T) {
	refused := [][]byte{{0x80}, nine, {0x80, 0x00}, behind(nine, 0x00), behind(nine, 0x02), behind(nine, 0xff)}
	for _, bad := range refused {
		checkAll(t, bad)
		checkAll(t, behind([]byte{0x05, 0x80, 0x01}, bad...), told{0, 5}, told{1, 128})
	}
	for _, bad := range refused[2:] { // what would be numbers again is not told
		checkAll(t, behind(bad, 0x05))
		checkAll(t, behind(behind([]byte{0x05}, bad...), 0x07, 0x08), told{0, 5})
	}
	if vint.All([]byte{0x80}) == nil {
		t.Error("All is nil")
	}
}

func TestAllTellsWhatEncodeWrote(t *testing.T) {
	r := source()
	for count := range 200 {
		l := anyNumbers(r, count)
		var want []told
		for i, n := range l {
			want = append(want, told{vint.Size(l[:i]...), n})
		}
		checkAll(t, vint.Encode(l...), want...)
	}
}

func TestAllGoesOnAsDecodeDoes(t *testing.T) {
	r := source()
	for range 2000 {
		b := anyBytes(r, r.Intn(40))
		var want []told
		for at := 0; ; {
			n, k, errno := vint.Decode(b[at:])
			if errno != api.OK {
				break
			}
			want = append(want, told{at, n})
			at += k
		}
		checkAll(t, b, want...)
	}
}

func TestAllAgainAndAgain(t *testing.T) {
	all := vint.All([]byte{0x05, 0x80, 0x01, 0x80})
	want := []told{{0, 5}, {1, 128}}
	for range 3 {
		if got := collect(all); !slices.Equal(got, want) {
			t.Errorf("All tells %d, want %d", got, want)
		}
	}
}

func TestAllWithinItself(t *testing.T) {
	all := vint.All([]byte{0x01, 0x02, 0x80, 0x01})
	want := []told{{0, 1}, {1, 2}, {2, 128}}
	var outer []told
	for at, n := range all {
		outer = append(outer, told{at, n})
		if inner := collect(all); !slices.Equal(inner, want) {
			t.Errorf("within: %d, want %d", inner, want)
		}
	}
	if !slices.Equal(outer, want) {
		t.Errorf("around: %d, want %d", outer, want)
	}
}

// Called by hand, since a range would panic by itself if it were told more.
func TestAllStopsWhenItIsLeft(t *testing.T) {
	all := vint.All([]byte{0x01, 0x02, 0x80, 0x01, 0x04})
	want := []told{{0, 1}, {1, 2}, {2, 128}, {4, 4}}
	for stop := 1; stop <= len(want); stop++ {
		var got []told
		all(func(at int, n uint64) bool {
			got = append(got, told{at, n})
			return len(got) < stop
		})
		if !slices.Equal(got, want[:stop]) {
			t.Errorf("left at the number %d: %d, want %d", stop, got, want[:stop])
		}
		if again := collect(all); !slices.Equal(again, want) {
			t.Errorf("ranged over again behind that: %d, want %d", again, want)
		}
	}
}

func TestAllLooksAtEachNumberInItsTurn(t *testing.T) {
	b := bytes.Repeat([]byte{0x01}, 1<<20)
	all := vint.All(b)
	for range 100000 { // gone through to the end each time, this would take minutes
		for range all {
			break
		}
	}
}

// While it is ranged over it looks at the list as it is then: also if that changes, it ends and stays within the list.
func TestAllOfAListThatChanges(t *testing.T) {
	b := []byte{0x01, 0x02, 0x03, 0x04}
	all := vint.All(b)
	b[0] = 0x7f
	if got := collect(all); !slices.Equal(got, []told{{0, 127}, {1, 2}, {2, 3}, {3, 4}}) {
		t.Errorf("All tells %d", got)
	}
	for at := range all {
		if at > 3 {
			t.Fatalf("the place %d is behind the end", at)
		}
		for i := range b {
			b[i] = 0x80
		}
	}
}
