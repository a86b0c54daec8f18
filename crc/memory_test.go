package crc_test

import (
	"bytes"
	"testing"

	"salvor/crc"
)

func TestNothingHandedInIsChanged(t *testing.T) {
	r := source()
	for _, n := range []int{0, 1, 7, 8, 9, 1024, 3000} {
		room := text(r, n+40)
		before := bytes.Clone(room)
		data := room[20 : 20+n] // with spare room behind it
		for _, w := range ways() {
			w.goOn(0x12345678, data)
			if !bytes.Equal(room, before) {
				t.Fatalf("%s writes into what it is given", w.name)
			}
		}
		crc.Sum(data, data[:n/2], data)
		if !bytes.Equal(room, before) {
			t.Fatal("Sum writes into what it is given")
		}
	}
}

func TestListOfPartsIsLeftAsItIs(t *testing.T) {
	a, b, c := []byte("one"), []byte("two"), make([]byte, 2000)
	parts := [][]byte{a, nil, b, c, b}
	crc.Sum(parts[:4]...)
	for i, want := range [][]byte{a, nil, b, c, b} {
		if len(parts[i]) != len(want) || len(want) > 0 && &parts[i][0] != &want[0] {
			t.Errorf("part %d is another one", i)
		}
	}
}

// What was handed in may be changed later: the next call sees what is there then, and no earlier answer minds.
func TestNothingHandedInIsKept(t *testing.T) {
	data := bytes.Repeat([]byte("salvor"), 400)
	fresh := bytes.Clone(data)
	spoil(fresh)
	for _, w := range append(ways(), way{"Sum", func(_ uint32, b []byte) uint32 { return crc.Sum(b) }}) {
		first := w.goOn(0, data)
		spoil(data)
		if got, want := w.goOn(0, data), crc.Bitwise(0, fresh); got != want {
			t.Errorf("%s of a text that was changed = %08x, want %08x", w.name, got, want)
		}
		spoil(data)
		if got := w.goOn(0, data); got != first {
			t.Errorf("%s of a text that was changed back = %08x, want %08x", w.name, got, first)
		}
	}
}
