package crc_test

import (
	"bytes"
	"hash/crc32"
	"testing"

	"salvor/crc"
)

func checkForge(t *testing.T, sum, want uint32) {
	t.Helper()
	four := crc.Forge(sum, want)
	if len(four) != 4 {
		t.Fatalf("Forge(%08x, %08x) = %x", sum, want, four)
	}
	if got := crc32.Update(sum, castagnoli, four); got != want {
		t.Errorf("from %08x with Forge(.., %08x) one comes to %08x", sum, want, got)
	}
}

func TestForgeGoesFromAnySumToAny(t *testing.T) {
	for _, sum := range starts {
		for _, want := range starts {
			checkForge(t, sum, want)
		}
	}
	r := source()
	for range 2000 {
		checkForge(t, r.Uint32(), r.Uint32())
	}
}

func TestForgeLeavesASum(t *testing.T) {
	r := source()
	for _, sum := range append([]uint32{r.Uint32(), r.Uint32()}, starts...) {
		checkForge(t, sum, sum)
	}
	// a text with no byte and one of four have the same sum
	if got := crc.Sum(crc.Forge(0, 0)); got != 0 {
		t.Errorf("the sum of Forge(0, 0) is %08x", got)
	}
}

func TestForgeBehindAText(t *testing.T) {
	r := source()
	for n := range 100 {
		b, want := text(r, n), r.Uint32()
		if got := crc.Sum(b, crc.Forge(crc.Sum(b), want)); got != want {
			t.Errorf("behind %d bytes: %08x, want %08x", n, got, want)
		}
	}
}

// Forge gives back whatever four bytes one went on with: so there are no other four that do the same.
func TestForgeFindsTheOnlyFour(t *testing.T) {
	r := source()
	for range 2000 {
		sum, four := r.Uint32(), text(r, 4)
		if got := crc.Forge(sum, crc.Bitwise(sum, four)); !bytes.Equal(got, four) {
			t.Errorf("from %08x with %x, forged %x", sum, four, got)
		}
	}
}

func TestForgeGivesNewMemory(t *testing.T) {
	one, other := crc.Forge(1, 2), crc.Forge(1, 2)
	want := bytes.Clone(one)
	spoil(one)
	if !bytes.Equal(other, want) {
		t.Error("two answers share memory")
	}
	if got := crc.Forge(1, 2); !bytes.Equal(got, want) {
		t.Errorf("behind a change of an earlier answer: %x, want %x", got, want)
	}
}

// spoil writes into a list, and into its spare room.
func spoil(b []byte) {
	b = b[:cap(b)]
	for i := range b {
		b[i] ^= 0xff
	}
}
