package frame_test

import (
	"bytes"
	"math"
	"math/rand"
	"strings"
	"testing"

	"salvor/api"
	"salvor/crc"
	"salvor/frame"
)

func checkRead(t *testing.T, b []byte, at int, f api.Frame, count int) {
	t.Helper()
	if got, gotCount, errno := frame.Decode(b, at); got != f || gotCount != count || errno != api.OK {
		t.Fatalf("Decode(%.300x, %d) = %#v, %d, %d, want %#v, %d", b, at, got, gotCount, errno, f, count)
	}
}

func checkUnread(t *testing.T, b []byte, at int, errno api.Errno) {
	t.Helper()
	if got, count, gotErrno := frame.Decode(b, at); got != (api.Frame{}) || count != 0 || gotErrno != errno {
		t.Fatalf("Decode(%.300x, %d) = %#v, %d, %d, want %d", b, at, got, count, gotErrno, errno)
	}
}

func checkByWords(t *testing.T, b []byte, at int) api.Errno {
	t.Helper()
	f, count, errno := decodeByWords(b, at)
	if errno == api.OK {
		checkRead(t, b, at, f, count)
	} else {
		checkUnread(t, b, at, errno)
	}
	return errno
}

// known is the frame of the chapter's first example.
func known() []byte { return []byte("\xa7\x00\x00\x05\x01\x01\x01kv\x0e\x7d\x39\x08\x4c") }

// turned is bytes with some of them others, from a place on.
func turned(b []byte, at int, others ...byte) []byte {
	b = bytes.Clone(b)
	copy(b[at:], others)
	return b
}

func TestReadKnownFrames(t *testing.T) {
	checkRead(t, known(), 0, put(1, "k", "v"), 14)
	checkRead(t, []byte("\xa7\x00\x00\x06\x02\xac\x02key\x0d\x50\x01\x69\x1d"), 0, gone(300, "key"), 15)
	checkRead(t, []byte("\xa7\x00\x00\x06\x03\x05\x02\x00\x0ek\x09\x08\x61\x4e\x76"), 0, hint(5, api.Delete, 0, 14, "k"), 15)
	checkRead(t, []byte("\xa7\x00\x00\x0a\x04\x02\xac\x02\x02\xff\xff\xff\xff\x0f\x04\x05\x17\x1e\x4a"), 0, foot(2, 300, 2, 1<<32-1), 19)
	checkRead(t, append(known(), 0x77), 0, put(1, "k", "v"), 14)
	checkUnread(t, known()[:13], 0, api.ErrFrameShort)
	checkUnread(t, known(), 1, api.ErrFrameLead)
}

// What was written is read, whatever stands behind or ahead: other frames, halves of them, lead bytes, or nothing.
func TestReadWhatWasWritten(t *testing.T) {
	r := source()
	around := []string{"", "\x00", "\x77", "\xa7", "\xa6", "\xa7\x00\x00\x05", "\xa7\x7f\x7f\x7f", "\xff\xff\xff", string(known()), string(known()[:13])}
	check := func(f api.Frame) {
		b, _ := frame.Encode(f)
		ahead, behind := pick(r, around...), pick(r, around...)
		checkRead(t, b, 0, f, len(b))
		checkRead(t, []byte(ahead+string(b)+behind), len(ahead), f, len(b))
		checkRead(t, append(b, b...), len(b), f, len(b))
	}
	for _, f := range edges() {
		for range 20 {
			check(f)
		}
	}
	for range 5000 {
		check(anyFrame(r))
	}
	for length := range 2049 {
		check(put(anyLSN(r), anyKey(r), anyText(r, length)))
	}
}

func TestReadPlacesThatAreNone(t *testing.T) {
	for _, at := range []int{-1, -2, -14, 14, 15, 100, 1 << 32, 1 << 62, math.MaxInt, math.MinInt} {
		checkUnread(t, known(), at, api.ErrFrameArg)
		// what stands in the spare room is no place of a list
		checkUnread(t, append(known(), known()...)[:14], at, api.ErrFrameArg)
	}
	for _, at := range []int{-1, 0, 1, math.MaxInt, math.MinInt} {
		checkUnread(t, nil, at, api.ErrFrameArg)
		checkUnread(t, []byte{}, at, api.ErrFrameArg)
		checkUnread(t, known()[:0], at, api.ErrFrameArg)
	}
}

func TestReadWhereNoLeadByteStands(t *testing.T) {
	for at := 1; at < 14; at++ {
		checkUnread(t, known(), at, api.ErrFrameLead)
	}
	for c := range 256 {
		if c != 0xa7 {
			checkUnread(t, turned(known(), 0, byte(c)), 0, api.ErrFrameLead)
			checkUnread(t, []byte{byte(c)}, 0, api.ErrFrameLead)
		}
	}
}

// A frame that is cut off is short, wherever that is; with what it lacks in the spare room, too.
func TestReadCutShort(t *testing.T) {
	for _, f := range edges() {
		b := frameByWords(f)
		for count := 1; count < len(b); count++ {
			checkUnread(t, b[:count], 0, api.ErrFrameShort)
			checkUnread(t, bytes.Clone(b[:count]), 0, api.ErrFrameShort)
		}
		both := append([]byte("ab"), b...)
		for count := 3; count < len(both); count++ {
			checkUnread(t, both[:count], 2, api.ErrFrameShort)
		}
	}
}

func TestReadAtTheLastByte(t *testing.T) {
	checkUnread(t, []byte{0xa7}, 0, api.ErrFrameShort)
	checkUnread(t, append(known(), 0xa7), 14, api.ErrFrameShort)
	checkUnread(t, append(known(), 0xa6), 14, api.ErrFrameLead)
}

// The length's bytes are looked at one by one: which of the two is told hangs on what comes first.
func TestReadLengthsThatAreNone(t *testing.T) {
	for c := range 256 {
		for at := 1; at <= 3; at++ {
			b := turned(known(), at, byte(c))
			if c >= 0x80 {
				checkUnread(t, b, 0, api.ErrFrameLength)
				checkUnread(t, b[:at+1], 0, api.ErrFrameLength)
				checkUnread(t, b[:at], 0, api.ErrFrameShort)
			} else {
				checkByWords(t, b, 0)
				checkUnread(t, b[:at+1], 0, api.ErrFrameShort)
			}
		}
	}
	checkUnread(t, []byte{0xa7, 0, 0xa7}, 0, api.ErrFrameLength)
	checkUnread(t, []byte{0xa7, 0xa7}, 0, api.ErrFrameLength)
	checkUnread(t, []byte{0xa7, 0x80, 0x80, 0x80}, 0, api.ErrFrameLength)
}

// All of the length and the sum must be there, ahead of anything else that may be wrong in them.
func TestReadLengthsBeyondWhatIsThere(t *testing.T) {
	checkUnread(t, turned(known(), 3, 6), 0, api.ErrFrameShort)
	checkUnread(t, turned(known(), 2, 1), 0, api.ErrFrameShort)
	checkUnread(t, turned(known(), 1, 1), 0, api.ErrFrameShort)
	checkUnread(t, turned(known(), 1, 0x7f, 0x7f, 0x7f), 0, api.ErrFrameShort)
	checkUnread(t, turned(known(), 4, 0xa7)[:13], 0, api.ErrFrameShort)
	checkUnread(t, turned(known(), 9, 0xff)[:13], 0, api.ErrFrameShort)
	checkUnread(t, []byte("\xa7\x00\x00\x00\x00\x00\x00\x00"), 0, api.ErrFrameShort)
	// of other lengths that leave room enough the sum is another one
	checkUnread(t, turned(known(), 3, 4), 0, api.ErrFrameSum)
	checkUnread(t, append(turned(known(), 3, 6), 0), 0, api.ErrFrameSum)
}

// A lead byte in the escaped body is told ahead of the sum, whether that is right, another one, or none.
func TestReadALeadByteInTheBody(t *testing.T) {
	for at := 4; at < 9; at++ {
		b := turned(known(), at, 0xa7)
		checkUnread(t, b, 0, api.ErrFrameForm)
		checkUnread(t, framed(b[4:9]), 0, api.ErrFrameForm)
		checkUnread(t, turned(b, 9, 0x10), 0, api.ErrFrameForm)
		checkUnread(t, turned(b, 13, 0xa7), 0, api.ErrFrameForm)
	}
	// ahead of the body and behind it stands no byte of it
	checkUnread(t, turned(known(), 9, 0xa7), 0, api.ErrFrameSum)
	checkRead(t, append([]byte{0xa7}, append(known(), 0xa7)...), 1, put(1, "k", "v"), 14)
}

func TestReadSumsThatAreNone(t *testing.T) {
	for _, f := range []api.Frame{put(1, "k", "v"), gone(300, "key"), hint(5, api.Delete, 0, 14, "k"), foot(2, 300, 2, 1<<32-1)} {
		b := frameByWords(f)
		for at := len(b) - 5; at < len(b); at++ {
			for c := range 256 {
				if byte(c) != b[at] {
					checkUnread(t, turned(b, at, byte(c)), 0, api.ErrFrameSum)
				}
			}
		}
		// beyond 32 bits, which is the same sum if one looks at these alone
		for first := byte(0x10); first < 0x80; first += 0x10 {
			checkUnread(t, turned(b, len(b)-5, b[len(b)-5]|first), 0, api.ErrFrameSum)
		}
	}
}

// zeroSum is a frame whose sum is 0, which is also what a number that could not be read would be.
func zeroSum(t *testing.T) []byte {
	for lsn := byte(1); lsn < 0x80; lsn++ {
		inner := []byte{0, 0, 8, 1, lsn, 1, 'k'}
		b := append(inner[3:], crc.Forge(sumByWords(inner), 0)...)
		if b = framed(b); bytes.Count(b, []byte{0xa6})+bytes.Count(b, []byte{0xa7}) == 1 {
			return b
		}
	}
	t.Fatal("there is none")
	return nil
}

func TestReadSumsThatAreNoneOfAFrameWhoseSumIsZero(t *testing.T) {
	b := zeroSum(t)
	checkRead(t, b, 0, put(uint64(b[5]), "k", string(b[8:12])), 17)
	if string(b[12:]) != "\x00\x00\x00\x00\x00" {
		t.Fatalf("the sum is %x", b[12:])
	}
	for at := 12; at < 17; at++ {
		for c := 1; c < 256; c++ {
			checkUnread(t, turned(b, at, byte(c)), 0, api.ErrFrameSum)
		}
	}
}

// The sum is of the length too, not of the lead byte.
func TestReadSumsOfSomethingElse(t *testing.T) {
	body := []byte("\x01\x01\x01kv")
	whole := append([]byte{0xa7, 0, 0, 5}, body...)
	for _, summed := range [][]byte{body, whole, whole[2:], whole[:8], nil} {
		checkUnread(t, append(bytes.Clone(whole), digits(uint64(sumByWords(summed)), 5)...), 0, api.ErrFrameSum)
	}
	checkRead(t, append(bytes.Clone(whole), digits(uint64(sumByWords(whole[1:])), 5)...), 0, put(1, "k", "v"), 14)
}

// A sum that is wrong is told ahead of a body that is none.
func TestReadSumAheadOfForm(t *testing.T) {
	for _, escaped := range []string{"", "\x00", "\x05", "\x01\x01\x01k\xa6", "\x01\x00\x01k"} {
		b := framed([]byte(escaped))
		checkUnread(t, b, 0, api.ErrFrameForm)
		checkUnread(t, turned(b, len(b)-1, b[len(b)-1]^1), 0, api.ErrFrameSum)
		checkUnread(t, turned(b, len(b)-5, b[len(b)-5]|0x10), 0, api.ErrFrameSum)
	}
}

func checkForm(t *testing.T, escaped ...string) {
	t.Helper()
	for _, e := range escaped {
		checkUnread(t, framed([]byte(e)), 0, api.ErrFrameForm)
	}
}

func TestReadKindsThatAreNone(t *testing.T) {
	checkForm(t, "")
	for kind := range 256 {
		for _, rest := range []string{"", "\x01\x01kv", "\x01k", "\x01\x01\x00\x01k", "\x00\x00\x00\x00"} {
			if kind < 1 || kind > 4 {
				checkForm(t, string(wrapByWords([]byte{byte(kind)}))+rest)
			}
		}
	}
}

func TestReadBodiesOfAPutThatAreNone(t *testing.T) {
	k65, v2049 := strings.Repeat("k", 65), strings.Repeat("v", 2049)
	checkForm(t, "\x01", "\x01\x01", "\x01\x01\x01", "\x01\x01\x02k") // something is missing
	checkForm(t, "\x01\x00\x01kv")                                    // LSN 0
	checkForm(t, "\x01\x01\x00", "\x01\x01\x00v")                     // no key
	checkForm(t, "\x01\x01\x41"+k65, "\x01\x01\x41"+k65+"v")          // one that is too long
	checkForm(t, "\x01\x01\x01k"+v2049)
	checkForm(t, "\x01\x81\x00\x01kv", "\x01\x80\x00\x01kv", "\x01\x01\x81\x00kv", "\x01\x01\x80\x00kv") // longer than need be
	checkForm(t, "\x01\x80", "\x01\x01\x80", "\x01\x01\xff\xff\xff\xff\xff\xff\xff\xff\xff\x01k")
	checkForm(t, "\x01\xff\xff\xff\xff\xff\xff\xff\xff\xff\x02\x01kv", "\x01\xff\xff\xff\xff\xff\xff\xff\xff\xff\xff\x01\x01kv") // beyond 64 bits
	// a key of 2^63 bytes, of 2^32 and 1, of 257
	checkForm(t, "\x01\x01\x80\x80\x80\x80\x80\x80\x80\x80\x80\x01k", "\x01\x01\x81\x80\x80\x80\x10k", "\x01\x01\x81\x02k")
}

func TestReadBodiesOfADeleteThatAreNone(t *testing.T) {
	checkForm(t, "\x02", "\x02\x01", "\x02\x00k", "\x02\x80", "\x02\x81\x00k", "\x02\x80\x00k")
	checkForm(t, "\x02\x01"+strings.Repeat("k", 65), "\x02\x01"+strings.Repeat("k", 300))
	checkForm(t, "\x02\xff\xff\xff\xff\xff\xff\xff\xff\xff\x02k", "\x02\xff\xff\xff\xff\xff\xff\xff\xff\xff\x01")
}

func TestReadBodiesOfAPointerThatAreNone(t *testing.T) {
	checkForm(t, "\x03", "\x03\x01", "\x03\x01\x01", "\x03\x01\x01\x00", "\x03\x01\x01\x00\x01") // something is missing
	checkForm(t, "\x03\x00\x01\x00\x01k")
	for kind := range 256 {
		if kind < 1 || kind > 2 {
			checkForm(t, "\x03\x01"+string(wrapByWords([]byte{byte(kind)}))+"\x00\x01k")
		}
	}
	checkForm(t, "\x03\x01\x81\x00\x00\x01k", "\x03\x01\x01\x00\x00k")                                                    // a kind of two bytes; Len 0
	checkForm(t, "\x03\x01\x01\x81\x80\x80\x02\x01k", "\x03\x01\x01\x00\x81\x80\x80\x02k")                                // 4194305
	checkForm(t, "\x03\x01\x01\x80\x00\x01k", "\x03\x01\x01\x00\x81\x00k", "\x03\x81\x00\x01\x00\x01k")                   // longer than need be
	checkForm(t, "\x03\x01\x01\x81\x80\x80\x80\x10\x01k", "\x03\x01\x01\x00\x81\x80\x80\x80\x80\x80\x80\x80\x80\x01k")    // 2^32 and 1, 2^63 and 1
	checkForm(t, "\x03\x01\x01\x00\xff\xff\xff\xff\xff\xff\xff\xff\xff\x02k", "\x03\x01\x01\x80", "\x03\x01\x01\x00\x80") // beyond 64 bits; cut off
	checkForm(t, "\x03\x01\x01\x00\x01"+strings.Repeat("k", 65))
}

func TestReadBodiesOfAnEndingThatAreNone(t *testing.T) {
	checkForm(t, "\x04", "\x04\x00", "\x04\x00\x00", "\x04\x00\x00\x00", "\x04\x00\x00\x00\x80")  // something is missing
	checkForm(t, "\x04\x00\x00\x00\x00\x00", "\x04\x00\x00\x00\x00k", "\x04\x00\x00\x00\x00\x80") // something more
	most := "\x81\x80\x80\x02"
	checkForm(t, "\x04"+most+"\x00\x00\x00", "\x04\x00"+most+"\x00\x00", "\x04\x00\x00"+most+"\x00")
	checkForm(t, "\x04\x80\x00\x00\x00\x00", "\x04\x00\x80\x00\x00\x00", "\x04\x00\x00\x80\x00\x00", "\x04\x00\x00\x00\x80\x00")
	checkForm(t, "\x04\x00\x00\x00\x80\x80\x80\x80\x10", "\x04\x00\x00\x00\x81\x80\x80\x80\x80\x01") // a sum of 2^32; of 2^35 and 1
	great := "\xff\xff\xff\xff\xff\xff\xff\xff\xff\x01"                                              // would be -1 as an int
	checkForm(t, "\x04"+great+"\x00\x00\x00", "\x04\x00"+great+"\x00\x00", "\x04\x00\x00"+great+"\x00", "\x04\x00\x00\x00"+great)
}

// What a body ends with is all its key or its value: nothing of it is left over, nor is it cut.
func TestReadTextsUpToTheEnd(t *testing.T) {
	checkRead(t, framed([]byte("\x01\x01\x01k\x01\x01\x01kv")), 0, put(1, "k", "\x01\x01\x01kv"), 18)
	checkRead(t, framed([]byte("\x02\x01k\x00")), 0, gone(1, "k\x00"), 13)
	checkRead(t, framed([]byte("\x03\x01\x02\x05\x06\x80\x00")), 0, hint(1, api.Delete, 5, 6, "\x80\x00"), 16)
	checkRead(t, framed([]byte("\x01\x01\x40"+strings.Repeat("k", 64))), 0, put(1, strings.Repeat("k", 64), ""), 76)
	checkRead(t, framed([]byte("\x01\x01\x3f"+strings.Repeat("k", 65))), 0, put(1, strings.Repeat("k", 63), "kk"), 77)
}

// The escaped body is the escaped form of a body in one way only.
func TestReadBodiesThatAreNotEscaped(t *testing.T) {
	checkForm(t, "\x01\x01\x01k\xa6", "\x01\x01\x01k\xa6\x02", "\x01\x01\x01k\xa6\xa6\x00", "\x01\x01\x01k\xa6\xff", "\xa6", "\xa6\x01", "\xa6\x00")
	checkRead(t, framed([]byte("\x01\x01\x01k\xa6\x00")), 0, put(1, "k", "\xa6"), 15)
	checkRead(t, framed([]byte("\x01\x01\x01k\xa6\x01")), 0, put(1, "k", "\xa7"), 15)
	checkRead(t, framed([]byte("\x01\xa6\x01\x01\x01k")), 0, put(167, "k", ""), 15)
	// lengths are those of the plain bytes
	checkRead(t, framed([]byte("\x01\x01\x02\xa6\x01\xa6\x00v")), 0, put(1, "\xa7\xa6", "v"), 17)
	checkRead(t, framed([]byte("\x01\x01\x40"+strings.Repeat("\xa6\x00", 64))), 0, put(1, strings.Repeat("\xa6", 64), ""), 140)
}

// The greatest length that three digits tell is read to its end, and no more.
func TestReadGreatestLength(t *testing.T) {
	b := framed(bytes.Repeat([]byte{0x01}, 1<<21-1))
	checkUnread(t, b, 0, api.ErrFrameForm)
	checkUnread(t, b[:len(b)-1], 0, api.ErrFrameShort)
	b[len(b)-1] ^= 1
	checkUnread(t, b, 0, api.ErrFrameSum)
	b[len(b)-6] = 0xa7
	checkUnread(t, b, 0, api.ErrFrameForm)
}

// All short escaped bodies of bytes that mean something, in frames of their own.
func TestReadShortBodies(t *testing.T) {
	told := map[api.Errno]int{}
	var longer func(escaped []byte)
	longer = func(escaped []byte) {
		told[checkByWords(t, framed(escaped), 0)]++
		for i := 0; i < len(telling) && len(escaped) < 4; i++ {
			longer(append(bytes.Clone(escaped), telling[i]))
		}
	}
	longer(nil)
	if told[api.OK] < 1000 || told[api.ErrFrameForm] < 1000 {
		t.Fatalf("how often each was the answer: %v", told)
	}
}

// damaged is a frame with a few bytes changed, lost or laid between; often the length and the sum are right again.
func damaged(r *rand.Rand, f api.Frame) []byte {
	b := frameByWords(f)
	if r.Intn(2) == 0 {
		b = b[4 : len(b)-5]
	}
	inner := len(b) > 0 && b[0] != 0xa7
	for range 1 + r.Intn(2) {
		at := r.Intn(len(b) + 1)
		behind := min(len(b), at+r.Intn(2))
		b = bytes.Join([][]byte{b[:at], []byte(anyText(r, r.Intn(2))), b[behind:]}, nil)
	}
	if inner {
		b = framed(b)
	}
	return b
}

func TestReadIsWhatTheWordsSay(t *testing.T) {
	r := source()
	told := map[api.Errno]int{}
	for range 50000 {
		b := damaged(r, anyFrame(r))
		told[checkByWords(t, b, 0)]++
		ahead := anyText(r, r.Intn(4))
		b = []byte(ahead + string(b) + anyText(r, r.Intn(4)))
		told[checkByWords(t, b, len(ahead))]++
		told[checkByWords(t, b, r.Intn(len(b)+2)-1)]++
	}
	for _, errno := range []api.Errno{api.OK, api.ErrFrameArg, api.ErrFrameLead, api.ErrFrameLength, api.ErrFrameShort, api.ErrFrameSum, api.ErrFrameForm} {
		if told[errno] < 100 {
			t.Fatalf("%d was the answer only %d times", errno, told[errno])
		}
	}
}

// Whatever is read is written again as it stood there.
func TestWriteWhatWasRead(t *testing.T) {
	r := source()
	read := 0
	for range 50000 {
		b := append(damaged(r, anyFrame(r)), anyText(r, r.Intn(3))...)
		f, count, errno := frame.Decode(b, 0)
		if errno != api.OK {
			continue
		}
		read++
		if got, errno := frame.Encode(f); errno != api.OK || !bytes.Equal(got, b[:count]) {
			t.Fatalf("Decode(%x, 0) = %#v, %d, of which Encode gives %x, %d", b, f, count, got, errno)
		}
	}
	if read < 5000 {
		t.Fatalf("only %d frames were read", read)
	}
}

// No frame begins within another one.
func TestReadWithinAFrame(t *testing.T) {
	check := func(f api.Frame) {
		b := append(frameByWords(f), known()...)
		for at := 1; at < len(b)-14; at++ {
			checkUnread(t, b, at, api.ErrFrameLead)
		}
	}
	for _, f := range edges() {
		check(f)
	}
	r := source()
	for range 200 {
		check(anyFrame(r))
	}
}
