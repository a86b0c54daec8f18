package scan_test

import (
	"bytes"
	"slices"
	"testing"

	"salvor/api"
	"salvor/scan"
)

// row is bytes with a frame of each kind and junk beside them, and what Frames tells of them.
func row() ([]byte, []told) {
	var l []told
	b := "x" + lead
	for _, f := range ofEachKind() {
		l = append(l, told{len(b), f})
		b += whole(f)
		if len(l) != 2 { // two of them stand side by side
			b += "yz" + small[:9]
		}
	}
	return []byte(b), l
}

func checkFrames(t *testing.T, b []byte, want ...told) {
	t.Helper()
	if got := collect(scan.Frames(b)); !slices.Equal(got, want) {
		t.Errorf("Frames(%x) tells %v, want %v", b, got, want)
	}
}

func TestFramesTellPlacesAndFrames(t *testing.T) {
	f := put(1, "k", "v")
	checkFrames(t, []byte(small), told{0, f})
	checkFrames(t, []byte(small+small), told{0, f}, told{14, f})
	checkFrames(t, []byte("x"+small+lead+small+small[:13]), told{1, f}, told{16, f})
	b, want := row()
	checkFrames(t, b, want...)
	for _, f := range append(ofEachKind(), put(1<<64-1, "\xa7\xa6", "\xa6\x00\xa7\x01"), put(9, "k", ""), foot(0, 0, 0, 0)) {
		checkFrames(t, []byte(whole(f)), told{0, f})
	}
}

func TestFramesOfNothing(t *testing.T) {
	for _, b := range [][]byte{nil, {}, []byte(small)[:0], []byte(small)[:13], []byte("junk"), []byte(lead + lead), []byte(framed("ab"))} {
		if scan.Frames(b) == nil {
			t.Errorf("Frames(%x) is nil", b)
		}
		checkFrames(t, b)
	}
}

func TestFramesAreWhatTheWordsSay(t *testing.T) {
	for _, b := range some() {
		checkFrames(t, b, toldByWords(b)...)
	}
}

// Called by hand, since a range would panic by itself if it were told more.
func TestFramesLeftEarly(t *testing.T) {
	b, want := row()
	frames := scan.Frames(b)
	for stop := 1; stop <= len(want); stop++ {
		var got []told
		for at, f := range frames {
			got = append(got, told{at, f})
			if len(got) == stop {
				break
			}
		}
		if !slices.Equal(got, want[:stop]) {
			t.Errorf("left at the frame %d: %v, want %v", stop, got, want[:stop])
		}
		got = nil
		frames(func(at int, f api.Frame) bool {
			got = append(got, told{at, f})
			return len(got) < stop
		})
		if !slices.Equal(got, want[:stop]) {
			t.Errorf("stopped at the frame %d: %v, want %v", stop, got, want[:stop])
		}
		if again := collect(frames); !slices.Equal(again, want) {
			t.Errorf("ranged over again behind that: %v, want %v", again, want)
		}
	}
}

func TestFramesAgainAndAgain(t *testing.T) {
	b, want := row()
	frames := scan.Frames(b)
	for range 3 {
		if got := collect(frames); !slices.Equal(got, want) {
			t.Errorf("%v, want %v", got, want)
		}
	}
}

func TestFramesWithinThemselves(t *testing.T) {
	b, want := row()
	frames := scan.Frames(b)
	var outer []told
	for at, f := range frames {
		outer = append(outer, told{at, f})
		if inner := collect(frames); !slices.Equal(inner, want) {
			t.Errorf("within: %v, want %v", inner, want)
		}
		for range frames { // also when the inner one is left
			break
		}
	}
	if !slices.Equal(outer, want) {
		t.Errorf("around: %v, want %v", outer, want)
	}
}

// Gone through to the end each time, this would take minutes.
func TestFramesLookAtEachInItsTurn(t *testing.T) {
	frames := scan.Frames(bytes.Repeat([]byte(small), 1<<16))
	for range 100000 {
		for range frames {
			break
		}
	}
}

// The bytes are looked at when they are ranged over, not when the iterator is made.
func TestFramesOfBytesThatWereChanged(t *testing.T) {
	b := []byte(small + "--------------")
	frames := scan.Frames(b)
	f := put(1, "k", "v")
	if got := collect(frames); !slices.Equal(got, []told{{0, f}}) {
		t.Errorf("as they were: %v", got)
	}
	copy(b[14:], small)
	if got := collect(frames); !slices.Equal(got, []told{{0, f}, {14, f}}) {
		t.Errorf("with another frame: %v", got)
	}
	b[0] = 'x'
	if got := collect(frames); !slices.Equal(got, []told{{14, f}}) {
		t.Errorf("without the first: %v", got)
	}
}

// Whatever is written meanwhile: it ends, and goes from the front to the back.
func TestFramesOfBytesThatChangeMeanwhile(t *testing.T) {
	r := source()
	for range 500 {
		b := anyBytes(r, 8)
		before := -1
		for at := range scan.Frames(b) {
			if at <= before || at >= len(b) {
				t.Fatalf("behind the place %d comes %d, of %d bytes", before, at, len(b))
			}
			before = at
			copy(b, anyBytes(r, 8))
		}
	}
}
