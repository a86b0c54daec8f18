package scan_test

import (
	"bytes"
	"math/rand"
	"slices"
	"strings"
	"testing"

	"salvor/api"
	"salvor/crc"
	"salvor/frame"
	"salvor/scan"
	"salvor/vint"
)

const lead = "\xa7"

// small is a frame of 14 bytes: Put of the key k with the value v and the LSN 1.
const small = "\xa7\x00\x00\x05\x01\x01\x01kv\x0e\x7d\x39\x08\x4c"

func source() *rand.Rand { return rand.New(rand.NewSource(5)) }

func pick[T any](r *rand.Rand, l ...T) T { return l[r.Intn(len(l))] }

func put(lsn uint64, key, value string) api.Frame {
	return api.Frame{Kind: api.Put, Record: api.Record{LSN: lsn, Kind: api.Put, Key: key, Value: value}}
}

func gone(lsn uint64, key string) api.Frame {
	return api.Frame{Kind: api.Delete, Record: api.Record{LSN: lsn, Kind: api.Delete, Key: key}}
}

func hint(lsn uint64, kind api.Kind, at, size int, key string) api.Frame {
	return api.Frame{Kind: api.Hint, Pointer: api.Pointer{LSN: lsn, Kind: kind, At: at, Len: size, Key: key}}
}

func foot(count, size, frames int, sum uint32) api.Frame {
	return api.Frame{Kind: api.Foot, Ending: api.Ending{Count: count, Print: api.Print{Bytes: size, Frames: frames, Sum: sum}}}
}

// ofEachKind are a Put, a Delete, a Hint and a Foot.
func ofEachKind() []api.Frame {
	return []api.Frame{put(1, "k", "v"), gone(2, "\xa7"), hint(3, api.Delete, 7, 20, "\xa6"), foot(4, 0xa7, 5, 6)}
}

// whole is the bytes of a frame that may be.
func whole(f api.Frame) string {
	b, errno := frame.Encode(f)
	if errno != api.OK {
		panic(errno)
	}
	return string(b)
}

// framed lays a length and a right sum around any bytes, whether they are an escaped body or not.
func framed(escaped string) string {
	length, _ := vint.Digits(uint64(len(escaped)), 3)
	inner := string(length) + escaped
	sum, _ := vint.Digits(uint64(crc.Sum([]byte(inner))), 5)
	return lead + inner + string(sum)
}

// anyText is bytes of which many mean something in a frame.
func anyText(r *rand.Rand, count int) string {
	const telling = "\x00\x01\x02\x03\x04\x05\x7f\x80\xa5\xa6\xa7\xa8"
	b := make([]byte, count)
	for i := range b {
		b[i] = pick(r, telling[r.Intn(len(telling))], byte(r.Intn(256)))
	}
	return string(b)
}

func anyKey(r *rand.Rand) string { return anyText(r, 1+r.Intn(6)) }

func anyFrame(r *rand.Rand) api.Frame {
	lsn := pick(r, 1, 0xa6, 0xa7, 1<<64-1, 1+uint64(r.Intn(1000)))
	switch r.Intn(5) {
	case 0:
		return gone(lsn, anyKey(r))
	case 1:
		return hint(lsn, pick(r, api.Put, api.Delete), r.Intn(4194305), 1+r.Intn(4194304), anyKey(r))
	case 2:
		return foot(r.Intn(4194305), r.Intn(4194305), r.Intn(4194305), r.Uint32())
	}
	return put(lsn, anyKey(r), anyText(r, pick(r, 0, 1, r.Intn(40))))
}

// anyPiece is a frame (half of the time), or what looks like one, or what does not.
func anyPiece(r *rand.Rand) string {
	f := whole(anyFrame(r))
	at := r.Intn(len(f))
	switch r.Intn(12) {
	case 0:
		return strings.Repeat(lead, 1+r.Intn(4))
	case 1:
		return anyText(r, r.Intn(12))
	case 2:
		return f[:at]
	case 3:
		return f[at:]
	case 4:
		return f[:at] + string([]byte{pick(r, 0xa7, f[at]^1<<r.Intn(8))}) + f[at+1:]
	case 5:
		return framed(anyText(r, r.Intn(8)))
	case 6:
		return lead + anyText(r, 3)
	}
	return f
}

func anyBytes(r *rand.Rand, pieces int) []byte {
	var b []byte
	for range pieces {
		b = append(b, anyPiece(r)...)
	}
	return b
}

func cleanBytes(r *rand.Rand, frames int) []byte {
	var b []byte
	for range frames {
		b = append(b, whole(anyFrame(r))...)
	}
	return b
}

// edges are bytes of each sort that the chapter speaks of.
func edges() [][]byte {
	kinds := ofEachKind()
	p, d, h, f := whole(kinds[0]), whole(kinds[1]), whole(kinds[2]), whole(kinds[3])
	l := [][]byte{nil, {}}
	for _, s := range []string{
		"a", "junk", lead, lead + lead, "\x00\xa7\xa7", strings.Repeat(lead, 50),
		p, d, h, f, p + p, p + d + h + f, f + h + d + p,
		"x" + p, p + "x", p + "x" + d, "xy" + h + "xy" + f + "xy", "x" + p + d + "xy" + h + f + "xyz",
		lead + p, lead + lead + lead + p, p + lead, p + lead + d, p + lead + lead + lead + h, "x" + lead + f + lead + "x",
		p[:len(p)-1], p + d[:len(d)-1], p[:len(p)-1] + d, h + p[:len(p)-1] + f, p[1:], p[1:] + d, p + d[1:], p[1:] + lead,
		"\xa7\x00\x00\x05" + p, "\xa7\x00\x00" + p, "\xa7\x7f\x7f\x7f" + p, "\xa7\x00\x00\x00" + p, "\xa7\x80" + p,
		framed(""), framed("\x01"), framed("\x05\x01\x01"), framed("\xa6"), framed(p), framed("\x02\x01") + p,
		p[:5] + d + p[5:], lead + p[:5] + d + h + p[5:] + f,
	} {
		l = append(l, []byte(s))
	}
	return l
}

// some are the edges, and many bytes of any sort.
func some() [][]byte {
	r := source()
	l := edges()
	for i := range 400 {
		l = append(l, anyBytes(r, i%8), cleanBytes(r, i%5), []byte(anyText(r, i%60)))
	}
	return l
}

// framesByWords are what layer 4 takes as a frame, at whatever place.
func framesByWords(b []byte) []api.Located {
	var l []api.Located
	for at := range b {
		if f, count, errno := frame.Decode(b, at); errno == api.OK {
			l = append(l, api.Located{Frame: f, At: at, Len: count})
		}
	}
	return l
}

func nextByWords(b []byte, from int) (int, int) {
	for _, l := range framesByWords(b) {
		if l.At >= from {
			return l.At, l.Len
		}
	}
	return -1, 0
}

// extentsByWords cuts byte by byte: whose each byte is tells where an extent ends.
func extentsByWords(b []byte) []api.Extent {
	owner := make([]int, len(b))
	for i, l := range framesByWords(b) {
		for k := range l.Len {
			owner[l.At+k] = i + 1
		}
	}
	var extents []api.Extent
	for at := range b {
		if at == 0 || owner[at] != owner[at-1] {
			extents = append(extents, api.Extent{Junk: owner[at] == 0, At: at})
		}
		extents[len(extents)-1].Len++
	}
	return extents
}

func recordsByWords(b []byte, kinds []api.Kind) []api.Located {
	var l []api.Located
	for _, x := range framesByWords(b) {
		isRecord := x.Frame.Kind == api.Put || x.Frame.Kind == api.Delete
		if slices.Contains(kinds, x.Frame.Kind) || len(kinds) == 0 && isRecord {
			l = append(l, x)
		}
	}
	return l
}

func cleanByWords(b []byte) []byte {
	var clean []byte
	for _, l := range framesByWords(b) {
		clean = append(clean, b[l.At:l.At+l.Len]...)
	}
	return clean
}

// told is what Frames tells.
type told struct {
	at int
	f  api.Frame
}

func collect(seq func(func(int, api.Frame) bool)) []told {
	var l []told
	for at, f := range seq {
		l = append(l, told{at, f})
	}
	return l
}

func toldByWords(b []byte) []told {
	var l []told
	for _, x := range framesByWords(b) {
		l = append(l, told{x.At, x.Frame})
	}
	return l
}

// isFrame and isJunk are extents, written short.
func isFrame(at, size int) api.Extent { return api.Extent{At: at, Len: size} }
func isJunk(at, size int) api.Extent  { return api.Extent{Junk: true, At: at, Len: size} }

func cut(s string) []api.Extent { return scan.Extents([]byte(s)) }

// What the tests take for a frame is one, and the words find frames in what they make: else they would test nothing.
func TestTheTestsHaveFrames(t *testing.T) {
	if whole(put(1, "k", "v")) != small || framed("\x01\x01\x01kv") != small {
		t.Errorf("the small frame is %x", small)
	}
	frames, junk := 0, 0
	for _, b := range some() {
		frames += len(framesByWords(b))
		if !bytes.Equal(cleanByWords(b), b) {
			junk++
		}
	}
	if frames < 1000 || junk < 500 {
		t.Errorf("%d frames in all, %d with junk", frames, junk)
	}
}
