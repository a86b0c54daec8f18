package vint_test

import (
	"bytes"
	"slices"
	"sync"
	"testing"

	"salvor/vint"
)

// spoil writes into a list, and into its spare room.
func spoil(b []byte) {
	b = b[:cap(b)]
	for i := range b {
		b[i] ^= 0xff
	}
}

func TestBytesHandedInAreNotChanged(t *testing.T) {
	r := source()
	for _, n := range []int{0, 1, 2, 9, 10, 11, 60} {
		for range 50 {
			room := anyBytes(r, n+40)
			before := bytes.Clone(room)
			b := room[20 : 20+n] // with spare room behind it
			vint.Decode(b)
			for range vint.All(b) {
			}
			for count := -1; count <= 11; count++ {
				vint.Number(b, count)
			}
			if !bytes.Equal(room, before) {
				t.Fatalf("of %x came %x", before, room)
			}
		}
	}
}

func TestNumbersHandedInAreNotChanged(t *testing.T) {
	room := append(edges(), edges()...)
	before := slices.Clone(room)
	for n := range room {
		vint.Encode(room[n/2 : n]...)
		vint.Size(room[n/2 : n]...)
	}
	if !slices.Equal(room, before) {
		t.Errorf("of %d came %d", before, room)
	}
}

// What was handed in may be changed later: no earlier answer minds, and the next call sees what is there then.
func TestNumbersHandedInAreNotKept(t *testing.T) {
	l := []uint64{0, 300, 1<<64 - 1}
	b := vint.Encode(l...)
	want := bytes.Clone(b)
	l[0], l[2] = 5, 0
	if !bytes.Equal(b, want) {
		t.Errorf("of %x came %x", want, b)
	}
	checkEncode(t, []byte{0x05, 0xac, 0x02, 0x00}, l...)
}

func TestEncodeGivesNewMemory(t *testing.T) {
	for _, l := range [][]uint64{nil, {0}, {300}, {0, 127, 128, 300}, edges()} {
		one, other := vint.Encode(l...), vint.Encode(l...)
		want := bytes.Clone(one)
		spoil(one)
		if !bytes.Equal(other, want) {
			t.Errorf("two answers of Encode(%d) share memory", l)
		}
		rest := bytes.Clone(other[:cap(other)])
		spoil(vint.Encode(l...))
		if !bytes.Equal(other[:cap(other)], rest) {
			t.Errorf("two answers of Encode(%d) share spare room", l)
		}
		checkEncode(t, want, l...)
	}
}

func TestDigitsGivesNewMemory(t *testing.T) {
	for count := 1; count <= 9; count++ {
		one, _ := vint.Digits(5, count)
		other, _ := vint.Digits(5, count)
		rest := bytes.Clone(other[:cap(other)])
		spoil(one)
		if !bytes.Equal(other[:cap(other)], rest) {
			t.Errorf("two answers of Digits(5, %d) share memory", count)
		}
		checkDigits(t, 5, count, rest[:count], 0)
	}
}

// Nothing is kept from call to call: many can ask at once, of the same bytes.
func TestAskedAtOnce(t *testing.T) {
	l := anyNumbers(source(), 300)
	b := vint.Encode(l...)
	all := vint.All(b)
	var group sync.WaitGroup
	var wrong [8]int
	for i := range wrong {
		group.Go(func() {
			for range 50 {
				var got []uint64
				for _, n := range all {
					got = append(got, n)
				}
				if !slices.Equal(got, l) || !bytes.Equal(vint.Encode(l...), b) {
					wrong[i]++
				}
			}
		})
	}
	group.Wait()
	if wrong != [8]int{} {
		t.Errorf("wrong answers of each goroutine: %v", wrong)
	}
}
