package frame_test

import (
	"bytes"
	"encoding/binary"
	"hash/crc32"
	"math/rand"
	"strings"

	"salvor/api"
)

func source() *rand.Rand { return rand.New(rand.NewSource(4)) }

func put(lsn uint64, key, value string) api.Frame {
	return api.Frame{Kind: api.Put, Record: api.Record{LSN: lsn, Kind: api.Put, Key: key, Value: value}}
}

func gone(lsn uint64, key string) api.Frame {
	return api.Frame{Kind: api.Delete, Record: api.Record{LSN: lsn, Kind: api.Delete, Key: key}}
}

func hint(lsn uint64, kind api.Kind, at, size int, key string) api.Frame {
	return api.Frame{Kind: api.Hint, Pointer: api.Pointer{LSN: lsn, Kind: kind, At: at, Len: size, Key: key}}
}

func foot(count, size, frames int, sum uint32) api.Frame {
	return api.Frame{Kind: api.Foot, Ending: api.Ending{Count: count, Print: api.Print{Bytes: size, Frames: frames, Sum: sum}}}
}

// refusedByWords is what the chapter says may not be, in its order.
func refusedByWords(f api.Frame) api.Errno {
	lsn, key, value := f.Record.LSN, f.Record.Key, f.Record.Value
	isPut, isDelete, isHint, isFoot := f.Kind == 1, f.Kind == 2, f.Kind == 3, f.Kind == 4
	other := api.Frame{Record: f.Record, Pointer: f.Pointer, Ending: f.Ending}
	switch {
	case isHint:
		lsn, key, value = f.Pointer.LSN, f.Pointer.Key, ""
		other.Pointer = api.Pointer{}
	case isFoot:
		lsn, key, value = 1, "k", ""
		other.Ending = api.Ending{}
	default:
		other.Record = api.Record{}
	}
	beyond := func(n, least int) bool { return n < least || n > 4194304 }
	p, e := f.Pointer, f.Ending
	switch {
	case !isPut && !isDelete && !isHint && !isFoot,
		(isPut || isDelete) && f.Record.Kind != f.Kind,
		isHint && p.Kind != 1 && p.Kind != 2:
		return api.ErrFrameKind
	case lsn < 1:
		return api.ErrFrameLSN
	case len(key) < 1 || len(key) > 64:
		return api.ErrFrameKey
	case len(value) > 2048, isDelete && value != "":
		return api.ErrFrameValue
	case isHint && (beyond(p.At, 0) || beyond(p.Len, 1)),
		isFoot && (beyond(e.Count, 0) || beyond(e.Print.Bytes, 0) || beyond(e.Print.Frames, 0)),
		other != api.Frame{}:
		return api.ErrFrameArg
	}
	return api.OK
}

// bodyByWords is the body of a frame that may be.
func bodyByWords(f api.Frame) []byte {
	b := []byte{byte(f.Kind)}
	number := func(n uint64) { b = binary.AppendUvarint(b, n) }
	text := func(s string) { b = append(b, s...) }
	r, p, e := f.Record, f.Pointer, f.Ending
	switch f.Kind {
	case 1:
		number(r.LSN)
		number(uint64(len(r.Key)))
		text(r.Key + r.Value)
	case 2:
		number(r.LSN)
		text(r.Key)
	case 3:
		number(p.LSN)
		b = append(b, byte(p.Kind))
		number(uint64(p.At))
		number(uint64(p.Len))
		text(p.Key)
	case 4:
		number(uint64(e.Count))
		number(uint64(e.Print.Bytes))
		number(uint64(e.Print.Frames))
		number(uint64(e.Print.Sum))
	}
	return b
}

func wrapByWords(plain []byte) []byte {
	return []byte(strings.NewReplacer("\xa7", "\xa6\x01", "\xa6", "\xa6\x00").Replace(string(plain)))
}

// digits are the so many groups of seven bits of a number, the highest first.
func digits(n uint64, count int) []byte {
	b := make([]byte, count)
	for i := range b {
		b[i] = byte(n >> (7 * (count - 1 - i)) & 0x7f)
	}
	return b
}

func sumByWords(b []byte) uint32 { return crc32.Checksum(b, crc32.MakeTable(crc32.Castagnoli)) }

// framed lays a length and a right sum around any bytes, whether they are an escaped body or not.
func framed(escaped []byte) []byte {
	inner := append(digits(uint64(len(escaped)), 3), escaped...)
	return bytes.Join([][]byte{{0xa7}, inner, digits(uint64(sumByWords(inner)), 5)}, nil)
}

// frameByWords is the frame of what may be.
func frameByWords(f api.Frame) []byte { return framed(wrapByWords(bodyByWords(f))) }

// readByWords reads an escaped body without much care: what is written again as it was is one.
func readByWords(escaped []byte) (api.Frame, bool) {
	rest := strings.NewReplacer("\xa6\x01", "\xa7", "\xa6\x00", "\xa6").Replace(string(escaped))
	take := func(count int) string {
		taken := rest[:min(count, len(rest))]
		rest = rest[len(taken):]
		return taken
	}
	one := func() api.Kind {
		taken := take(1)
		return api.Kind((taken + "\x00")[0])
	}
	number := func() uint64 {
		n, count := binary.Uvarint([]byte(rest))
		take(max(count, 0))
		return n
	}
	f := api.Frame{Kind: one()}
	r, p, e := &f.Record, &f.Pointer, &f.Ending
	switch f.Kind {
	case 1:
		r.Kind, r.LSN = 1, number()
		r.Key = take(int(min(number(), 1000)))
		r.Value = rest
	case 2:
		r.Kind, r.LSN = 2, number()
		r.Key = rest
	case 3:
		p.LSN, p.Kind, p.At, p.Len = number(), one(), int(number()), int(number())
		p.Key = rest
	case 4:
		e.Count, e.Print.Bytes, e.Print.Frames, e.Print.Sum = int(number()), int(number()), int(number()), uint32(number())
	}
	return f, refusedByWords(f) == api.OK && bytes.Equal(wrapByWords(bodyByWords(f)), escaped)
}

// decodeByWords is what the chapter says of Decode.
func decodeByWords(b []byte, at int) (api.Frame, int, api.Errno) {
	no := func(errno api.Errno) (api.Frame, int, api.Errno) { return api.Frame{}, 0, errno }
	if at < 0 || at > len(b)-1 {
		return no(api.ErrFrameArg)
	}
	if b[at] != 0xa7 {
		return no(api.ErrFrameLead)
	}
	length := 0
	for i := at + 1; i <= at+3; i++ {
		if i >= len(b) {
			return no(api.ErrFrameShort)
		}
		if b[i] >= 0x80 {
			return no(api.ErrFrameLength)
		}
		length = length*128 + int(b[i])
	}
	if len(b) < at+4+length+5 {
		return no(api.ErrFrameShort)
	}
	inner, sum := b[at+1:at+4+length], b[at+4+length:at+9+length]
	if bytes.IndexByte(inner[3:], 0xa7) >= 0 {
		return no(api.ErrFrameForm)
	}
	if !bytes.Equal(sum, digits(uint64(sumByWords(inner)), 5)) {
		return no(api.ErrFrameSum)
	}
	f, ok := readByWords(inner[3:])
	if !ok {
		return no(api.ErrFrameForm)
	}
	return f, 9 + length, api.OK
}

// telling are bytes that mean something in a body or in a frame, and those beside them.
const telling = "\x00\x01\x02\x03\x04\x05\x0f\x10\x40\x41\x7f\x80\x81\xa5\xa6\xa7\xa8\xff"

// anyText is bytes of which most are of those that mean something.
func anyText(r *rand.Rand, count int) string {
	b := make([]byte, count)
	for i := range b {
		b[i] = telling[r.Intn(len(telling))]
		if r.Intn(3) == 0 {
			b[i] = byte(r.Intn(256))
		}
	}
	return string(b)
}

func pick[T any](r *rand.Rand, l ...T) T { return l[r.Intn(len(l))] }

// anyLSN is one that may be.
func anyLSN(r *rand.Rand) uint64 {
	return pick(r, 1, 2, 127, 128, 0xa6, 0xa7, 300, 1<<63, 1<<64-1, 1+uint64(r.Intn(1000)), r.Uint64()|1)
}

func anyKey(r *rand.Rand) string { return anyText(r, pick(r, 1, 2, 63, 64, 1+r.Intn(64))) }

func anyCount(r *rand.Rand, least int) int {
	return pick(r, least, least+1, 127, 128, 0xa6, 0xa7, 4194303, 4194304, least+r.Intn(4194305-least))
}

// anyFrame is one that may be, of any kind; few of the values are long.
func anyFrame(r *rand.Rand) api.Frame {
	switch r.Intn(4) {
	case 0:
		return put(anyLSN(r), anyKey(r), anyText(r, pick(r, 0, 1, r.Intn(60), r.Intn(300), 127, 128)))
	case 1:
		return gone(anyLSN(r), anyKey(r))
	case 2:
		return hint(anyLSN(r), pick(r, api.Put, api.Delete), anyCount(r, 0), anyCount(r, 1), anyKey(r))
	}
	return foot(anyCount(r, 0), anyCount(r, 0), anyCount(r, 0), pick(r, 0, 1, 0xa6, 0xa7, 1<<32-1, r.Uint32()))
}

// edges are frames of all kinds that may be, each of them only just.
func edges() []api.Frame {
	const most, lead = 4194304, "\xa7"
	return []api.Frame{
		put(1, "k", "v"), put(1, "k", ""), put(1<<64-1, "k", "v"), put(0xa7, lead, lead), put(0xa6, "\xa6", "\xa6\x01"),
		put(1, strings.Repeat("k", 64), ""), put(1, "k", strings.Repeat("v", 2048)),
		put(1<<64-1, strings.Repeat(lead, 64), strings.Repeat(lead, 2048)),
		put(1, "\x00", "\x00"), put(1, "\xff", "\xff"),
		gone(1, "k"), gone(1<<64-1, "k"), gone(300, strings.Repeat("k", 64)), gone(0xa7, strings.Repeat(lead, 64)), gone(0xa6, "\x00"),
		hint(1, api.Put, 0, 1, "k"), hint(1, api.Delete, 0, 1, "k"), hint(1<<64-1, api.Put, most, most, strings.Repeat(lead, 64)),
		hint(0xa7, api.Delete, 0xa6, 0xa7, "\xa6"), hint(1, api.Put, most, 1, "k"), hint(1, api.Put, 0, most, "k"),
		foot(0, 0, 0, 0), foot(most, most, most, 1<<32-1), foot(most, 0, 0, 0), foot(0, most, 0, 0), foot(0, 0, most, 0), foot(0, 0, 0, 1<<32-1),
		foot(0xa7, 0xa6, 0xa7, 0xa6), foot(127, 128, 16383, 16384),
	}
}
