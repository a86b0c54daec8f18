package hint_test

import (
	"math"
	"strings"
	"testing"

	"salvor/api"
	"salvor/hint"
)

func TestCheckOfEveryPointerOfASegment(t *testing.T) {
	l := records()
	s := laid(l...)
	for i, p := range pointersTo(l...) {
		checkCheck(t, s, p, true)
		checkCheck(t, s[:p.At+p.Len], p, true)
		checkCheck(t, s[:p.At+p.Len-1], p, false)
		alone := p
		alone.At = 0
		checkCheck(t, laid(l[i]), alone, true)
		checkCheck(t, s[p.At:], alone, true)
	}
}

// What stands ahead or behind is not looked at: the segment need not be clean.
func TestCheckAmongJunk(t *testing.T) {
	r := put(7, "k", "v")
	for _, ahead := range []string{"", "x", "\xa7", "\xa7\x00\x00\x05", laid(r)[:13], footFrame(api.Ending{})} {
		for _, behind := range []string{"", "x", "\xa7", laid(r)[1:], footFrame(api.Ending{})} {
			checkCheck(t, ahead+laid(r)+behind, to(api.Put, 7, "k", len(ahead), 14), true)
		}
	}
	big := strings.Repeat("x", 4194304)
	checkCheck(t, big+laid(r), to(api.Put, 7, "k", 4194304, 14), true) // nor how many bytes there are
}

func TestCheckAtNoPlace(t *testing.T) {
	s := laid(put(7, "k", "v"), gone(8, "k"))
	for _, at := range []int{-1, -2, -14, -26, math.MinInt, math.MinInt + 1, 26, 27, 40, 1 << 22, 1 << 32, 1 << 62, math.MaxInt - 14, math.MaxInt} {
		for _, size := range []int{0, 1, 12, 14, -at, math.MaxInt, math.MinInt} {
			checkCheck(t, s, to(api.Put, 7, "k", at, size), false)
			checkCheck(t, s, to(api.Delete, 8, "k", at, size), false)
			checkCheck(t, s, api.Pointer{At: at, Len: size}, false)
		}
	}
	for _, none := range []string{"", "\xa7"} {
		for at := -2; at < 4; at++ {
			checkCheck(t, none, to(api.Put, 7, "k", at, 14), false)
			checkCheck(t, none, api.Pointer{At: at}, false)
			checkCheck(t, none, api.Pointer{At: at, Len: 1}, false)
		}
	}
	if hint.Check(nil, api.Pointer{}) {
		t.Errorf("Check(nil) = true")
	}
}

// Within a frame, or beside it, none begins: at every place but the two that are right.
func TestCheckAtAPlaceWithinAFrame(t *testing.T) {
	s := laid(put(7, "k", "v"), put(7, "k", "v"))
	for at := range s {
		for size := -1; size <= len(s)+1; size++ {
			checkCheck(t, s, to(api.Put, 7, "k", at, size), size == 14 && (at == 0 || at == 14))
		}
	}
	within := put(1, "k", laid(put(7, "k", "v"))) // a frame in a value is no frame: its lead byte is escaped
	for at := 1; at < len(whole(within)); at++ {
		for _, size := range []int{13, 14, 15, 16} {
			checkCheck(t, whole(within), to(api.Put, 7, "k", at, size), false)
		}
	}
}

func TestCheckWithAnotherLength(t *testing.T) {
	s := laid(put(7, "k", "v"), gone(8, "k"))
	for _, size := range []int{13, 15, 12, 0, 1, -14, 26, 28, math.MaxInt, math.MinInt, 1<<32 + 14} {
		checkCheck(t, s, to(api.Put, 7, "k", 0, size), false)
	}
	checkCheck(t, s, to(api.Put, 7, "k", 0, 14), true)
	checkCheck(t, s, to(api.Delete, 8, "k", 14, 12), true)
}

func TestCheckWithAnotherNumber(t *testing.T) {
	for _, lsn := range []uint64{1, 7, 1 << 32, 1<<64 - 1} {
		r := put(lsn, "k", "v")
		for _, other := range []uint64{0, 1, 6, 7, 8, 1 << 32, 1<<32 + 7, 1<<64 - 1, lsn + 1, lsn - 1} {
			checkCheck(t, laid(r), to(api.Put, other, "k", 0, len(whole(r))), other == lsn)
		}
	}
}

func TestCheckWithAnotherKind(t *testing.T) {
	for _, kind := range []api.Kind{-1, 0, 1, 2, 3, 4, 5, 257, 258, math.MaxInt, math.MinInt} {
		checkCheck(t, laid(put(7, "k", "v")), to(kind, 7, "k", 0, 14), kind == api.Put)
		checkCheck(t, laid(put(7, "k", "")), to(kind, 7, "k", 0, 13), kind == api.Put)
		checkCheck(t, laid(gone(7, "k")), to(kind, 7, "k", 0, 12), kind == api.Delete)
	}
}

func TestCheckWithAnotherKey(t *testing.T) {
	for _, key := range []string{"k", "kk", "\xa7", "k\x00", strings.Repeat("k", 64)} {
		p, d := put(7, key, "v"), gone(7, key)
		for _, other := range []string{"", "k", "kv", "kk", "K", "\xa7", "\xa6\x01", "k\x00", "\x00k", strings.Repeat("k", 63), strings.Repeat("k", 64), strings.Repeat("k", 65)} {
			checkCheck(t, laid(p), to(api.Put, 7, other, 0, len(whole(p))), other == key)
			checkCheck(t, laid(d), to(api.Delete, 7, other, 0, len(whole(d))), other == key)
		}
	}
}

// The value is not pointed to: records that differ in it alone are checked alike.
func TestCheckLooksAtNoValue(t *testing.T) {
	for _, value := range []string{"v", "w", "\x00"} {
		checkCheck(t, laid(put(7, "k", value)), to(api.Put, 7, "k", 0, 14), true)
	}
}

// Frames that have no record are pointed to by none: neither by what they have, nor by noughts.
func TestCheckAtAPointerOrAnEnding(t *testing.T) {
	pointer := to(api.Put, 7, "k", 0, 14)
	for _, f := range []string{hintFrame(pointer), footFrame(api.Ending{}), footFrame(end(1, 14, 1, 7)), footFrame(end(7, 1, 1, 0x6b))} {
		for _, kind := range []api.Kind{0, api.Put, api.Delete, api.Hint, api.Foot} {
			for _, lsn := range []uint64{0, 1, 7} {
				for _, key := range []string{"", "k"} {
					checkCheck(t, f, to(kind, lsn, key, 0, len(f)), false)
					checkCheck(t, "x"+f, to(kind, lsn, key, 1, len(f)), false)
				}
			}
		}
	}
	checkCheck(t, hintFrame(pointer), pointer, false)
}

// A frame with a byte that is another one is none.
func TestCheckOfADamagedFrame(t *testing.T) {
	p := to(api.Put, 7, "k", 0, 14)
	for at := range 14 {
		for c := range 256 {
			b := []byte(laid(put(7, "k", "v")))
			same := b[at] == byte(c)
			b[at] = byte(c)
			checkCheck(t, string(b), p, same)
		}
	}
}
