package frame_test

import (
	"bytes"
	"strings"
	"testing"

	"salvor/api"
	"salvor/frame"
)

func checkWritten(t *testing.T, f api.Frame, body, whole string) {
	t.Helper()
	if got, errno := frame.Body(f); string(got) != body || errno != api.OK {
		t.Fatalf("Body(%#v) = %x, %d, want %x", f, got, errno, body)
	}
	if got, errno := frame.Encode(f); string(got) != whole || errno != api.OK {
		t.Fatalf("Encode(%#v) = %x, %d, want %x", f, got, errno, whole)
	}
}

// Whole frames, their sums worked out elsewhere.
func TestWriteKnownFrames(t *testing.T) {
	checkWritten(t, put(1, "k", "v"), "\x01\x01\x01kv", "\xa7\x00\x00\x05\x01\x01\x01kv\x0e\x7d\x39\x08\x4c")
	checkWritten(t, gone(300, "key"), "\x02\xac\x02key", "\xa7\x00\x00\x06\x02\xac\x02key\x0d\x50\x01\x69\x1d")
	checkWritten(t, hint(5, api.Delete, 0, 14, "k"), "\x03\x05\x02\x00\x0ek", "\xa7\x00\x00\x06\x03\x05\x02\x00\x0ek\x09\x08\x61\x4e\x76")
	checkWritten(t, foot(2, 300, 2, 1<<32-1), "\x04\x02\xac\x02\x02\xff\xff\xff\xff\x0f", "\xa7\x00\x00\x0a\x04\x02\xac\x02\x02\xff\xff\xff\xff\x0f\x04\x05\x17\x1e\x4a")
}

func checkBody(t *testing.T, f api.Frame, body, escaped string) {
	t.Helper()
	checkWritten(t, f, body, string(framed([]byte(escaped))))
}

// checkPlain is for a body in which nothing has to be written otherwise.
func checkPlain(t *testing.T, f api.Frame, body string) {
	t.Helper()
	checkBody(t, f, body, body)
}

// What has to be written otherwise stands so in the frame, and is counted so by its length; the body has it as it is.
func TestWriteLeadAndEscapeBytes(t *testing.T) {
	checkBody(t, put(1, "k", "\xa7"), "\x01\x01\x01k\xa7", "\x01\x01\x01k\xa6\x01")
	checkBody(t, put(1, "\xa7", "\xa6\x00"), "\x01\x01\x01\xa7\xa6\x00", "\x01\x01\x01\xa6\x01\xa6\x00\x00")
	checkBody(t, gone(1, "\xa6\xa7"), "\x02\x01\xa6\xa7", "\x02\x01\xa6\x00\xa6\x01")
	// in numbers too: a7 01 is the varint of 167
	checkBody(t, gone(167, "k"), "\x02\xa7\x01k", "\x02\xa6\x01\x01k")
	checkBody(t, hint(1, api.Put, 167, 166, "k"), "\x03\x01\x01\xa7\x01\xa6\x01k", "\x03\x01\x01\xa6\x01\x01\xa6\x00\x01k")
	checkBody(t, foot(167, 166, 167, 167), "\x04\xa7\x01\xa6\x01\xa7\x01\xa7\x01", "\x04\xa6\x01\x01\xa6\x00\x01\xa6\x01\x01\xa6\x01\x01")
}

func TestWriteGreatestNumbers(t *testing.T) {
	const lsn, most = "\xff\xff\xff\xff\xff\xff\xff\xff\xff\x01", "\x80\x80\x80\x02"
	checkPlain(t, put(1<<64-1, "k", "v"), "\x01"+lsn+"\x01kv")
	checkPlain(t, gone(1<<64-1, "k"), "\x02"+lsn+"k")
	checkPlain(t, hint(1<<64-1, api.Put, 4194304, 4194304, "k"), "\x03"+lsn+"\x01"+most+most+"k")
	checkPlain(t, foot(4194304, 4194304, 4194304, 1<<32-1), "\x04"+most+most+most+"\xff\xff\xff\xff\x0f")
}

func TestWriteLeastNumbers(t *testing.T) {
	checkPlain(t, put(1, "\x00", ""), "\x01\x01\x01\x00")
	checkPlain(t, gone(1, "\x00"), "\x02\x01\x00")
	checkPlain(t, hint(1, api.Put, 0, 1, "\x00"), "\x03\x01\x01\x00\x01\x00")
	checkPlain(t, hint(1, api.Delete, 0, 1, "\x00"), "\x03\x01\x02\x00\x01\x00")
	checkPlain(t, foot(0, 0, 0, 0), "\x04\x00\x00\x00\x00")
}

// Each number of an ending has its own place, and so has each one of a pointer.
func TestWriteNumbersInTheirOrder(t *testing.T) {
	checkPlain(t, foot(1, 2, 3, 4), "\x04\x01\x02\x03\x04")
	checkPlain(t, hint(9, api.Put, 2, 3, "k"), "\x03\x09\x01\x02\x03k")
	checkPlain(t, put(9, "kk", "vvv"), "\x01\x09\x02kkvvv")
}

func TestWriteLongestKeysAndValues(t *testing.T) {
	key, value := strings.Repeat("k", 64), strings.Repeat("v", 2048)
	checkPlain(t, put(1, key, value), "\x01\x01\x40"+key+value)
	checkPlain(t, gone(1, key), "\x02\x01"+key)
	checkPlain(t, hint(1, api.Put, 0, 1, key), "\x03\x01\x01\x00\x01"+key)
	leads, pairs := strings.Repeat("\xa7", 2048), strings.Repeat("\xa6\x01", 2048)
	checkBody(t, put(1, leads[:64], leads), "\x01\x01\x40"+leads[:64]+leads, "\x01\x01\x40"+pairs[:128]+pairs)
}

// The length is of three digits: it changes from 127 to 128, and what the higher ones tell counts 128 times as much.
func TestWriteLengths(t *testing.T) {
	for _, length := range []int{4, 5, 126, 127, 128, 129, 255, 256, 2000} {
		f := put(1, "k", strings.Repeat("v", length-4))
		got, errno := frame.Encode(f)
		if want := []byte{0xa7, 0, byte(length / 128), byte(length % 128)}; errno != api.OK || !bytes.Equal(got[:4], want) || len(got) != length+9 {
			t.Fatalf("a frame with %d bytes of body has %d in all, and begins with %x; want %x", length, len(got), got[:min(4, len(got))], want)
		}
	}
}

func TestWriteIsWhatTheWordsSay(t *testing.T) {
	check := func(f api.Frame) { checkWritten(t, f, string(bodyByWords(f)), string(frameByWords(f))) }
	for _, f := range edges() {
		check(f)
	}
	r := source()
	for range 5000 {
		check(anyFrame(r))
	}
	for length := range 2049 {
		check(put(anyLSN(r), anyKey(r), anyText(r, length)))
	}
	for length := 1; length <= 64; length++ {
		key := anyText(r, length)
		check(put(anyLSN(r), key, ""))
		check(gone(anyLSN(r), key))
		check(hint(anyLSN(r), api.Delete, anyCount(r, 0), anyCount(r, 1), key))
	}
}

func TestNoByteButTheFirstIsALeadByte(t *testing.T) {
	check := func(f api.Frame) {
		got, _ := frame.Encode(f)
		if bytes.LastIndexByte(got, 0xa7) != 0 {
			t.Fatalf("Encode(%#v) = %x", f, got)
		}
	}
	for _, f := range edges() {
		check(f)
	}
	r := source()
	for range 5000 {
		check(anyFrame(r))
	}
}

func TestOfARecord(t *testing.T) {
	for _, r := range []api.Record{
		put(1, "k", "v").Record, gone(7, "k").Record, {},
		{Kind: 9, Value: "v"}, {Kind: api.Hint, LSN: 1, Key: "k"}, {Kind: api.Foot}, {Kind: -1}, {Kind: 257},
		{LSN: 5, Kind: api.Delete, Key: strings.Repeat("k", 99), Value: strings.Repeat("v", 9999)},
	} {
		if got, want := frame.Of(r), (api.Frame{Kind: r.Kind, Record: r}); got != want {
			t.Fatalf("Of(%#v) = %#v", r, got)
		}
	}
}
