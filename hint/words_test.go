package hint_test

import (
	"encoding/binary"
	"fmt"
	"hash/crc32"
	"math/rand"
	"slices"
	"strings"
	"testing"

	"salvor/api"
	"salvor/frame"
	"salvor/hint"
)

func source() *rand.Rand { return rand.New(rand.NewSource(10)) }

func pick[T any](r *rand.Rand, l ...T) T { return l[r.Intn(len(l))] }

func put(lsn uint64, key, value string) api.Record {
	return api.Record{LSN: lsn, Kind: api.Put, Key: key, Value: value}
}

func gone(lsn uint64, key string) api.Record {
	return api.Record{LSN: lsn, Kind: api.Delete, Key: key}
}

// made once, since frames are written again and again
var (
	castagnoli = crc32.MakeTable(crc32.Castagnoli)
	escaper    = strings.NewReplacer("\xa7", "\xa6\x01", "\xa6", "\xa6\x00")
)

func sumByWords(s string) uint32 { return crc32.Checksum([]byte(s), castagnoli) }

// digits are the so many groups of seven bits of a number, the highest first.
func digits(n uint64, count int) string {
	b := make([]byte, count)
	for i := range b {
		b[i] = byte(n >> (7 * (count - 1 - i)) & 0x7f)
	}
	return string(b)
}

func varint(n uint64) string { return string(binary.AppendUvarint(nil, n)) }

// framed lays what a frame has around a body.
func framed(body string) string {
	escaped := escaper.Replace(body)
	inner := digits(uint64(len(escaped)), 3) + escaped
	return "\xa7" + inner + digits(uint64(sumByWords(inner)), 5)
}

// whole is the frame of a record that may be.
func whole(r api.Record) string {
	if r.Kind == api.Delete {
		return framed("\x02" + varint(r.LSN) + r.Key)
	}
	return framed("\x01" + varint(r.LSN) + varint(uint64(len(r.Key))) + r.Key + r.Value)
}

// laid is the frames of records, one behind the other.
func laid(l ...api.Record) string {
	s := ""
	for _, r := range l {
		s += whole(r)
	}
	return s
}

func hintFrame(p api.Pointer) string {
	return framed("\x03" + varint(p.LSN) + string([]byte{byte(p.Kind)}) + varint(uint64(p.At)) + varint(uint64(p.Len)) + p.Key)
}

func footFrame(e api.Ending) string {
	return framed("\x04" + varint(uint64(e.Count)) + varint(uint64(e.Print.Bytes)) + varint(uint64(e.Print.Frames)) + varint(uint64(e.Print.Sum)))
}

func to(kind api.Kind, lsn uint64, key string, at, size int) api.Pointer {
	return api.Pointer{LSN: lsn, Kind: kind, At: at, Len: size, Key: key}
}

func end(count, size, frames int, sum uint32) api.Ending {
	return api.Ending{Count: count, Print: api.Print{Bytes: size, Frames: frames, Sum: sum}}
}

// hints are pointers and an ending, as bytes.
func hints(e api.Ending, l ...api.Pointer) string {
	s := ""
	for _, p := range l {
		s += hintFrame(p)
	}
	return s + footFrame(e)
}

// pointersTo are those to records that lie one behind the other.
func pointersTo(l ...api.Record) []api.Pointer {
	var pointers []api.Pointer
	at := 0
	for _, r := range l {
		pointers = append(pointers, to(r.Kind, r.LSN, r.Key, at, len(whole(r))))
		at += len(whole(r))
	}
	return pointers
}

// rightFor is the hint file of a segment of these records, and printFor the segment's fingerprint.
func rightFor(l ...api.Record) string {
	return hints(api.Ending{Count: len(l), Print: printFor(l...)}, pointersTo(l...)...)
}

func printFor(l ...api.Record) api.Print {
	s := laid(l...)
	return api.Print{Bytes: len(s), Frames: len(l), Sum: sumByWords(s)}
}

// sized is a Put whose frame has so many bytes.
func sized(t *testing.T, lsn uint64, size int) api.Record {
	t.Helper()
	r := put(lsn, "k", "")
	r.Value = strings.Repeat("v", size-len(whole(r)))
	if len(whole(r)) != size || len(r.Value) > 2048 {
		t.Fatalf("there is no such frame of %d bytes", size)
	}
	return r
}

// framesByWords are what layer 4 takes as a frame, at whatever place; true, if each byte is in one.
func framesByWords(s string) ([]api.Located, bool) {
	b := []byte(s)
	var l []api.Located
	covered := 0
	for at := range b {
		if f, count, errno := frame.Decode(b, at); errno == api.OK {
			l = append(l, api.Located{Frame: f, At: at, Len: count})
			covered += count
		}
	}
	return l, covered == len(s)
}

func ofKind(kinds ...api.Kind) func(l api.Located) bool {
	return func(l api.Located) bool { return slices.Contains(kinds, l.Frame.Kind) }
}

func cleanByWords(s string) bool {
	frames, all := framesByWords(s)
	count := 0
	for _, l := range frames {
		if l.Frame.Kind == api.Put || l.Frame.Kind == api.Delete {
			count++
		}
	}
	return all && count == len(frames) && len(s) <= 4194304
}

func printByWords(s string) api.Print {
	frames, _ := framesByWords(s)
	return api.Print{Bytes: len(s), Frames: len(frames), Sum: sumByWords(s)}
}

func ofByWords(s string) (string, api.Errno) {
	if !cleanByWords(s) {
		return "", api.ErrHintDirty
	}
	frames, _ := framesByWords(s)
	file := ""
	for _, l := range frames {
		r := l.Frame.Record
		file += hintFrame(to(r.Kind, r.LSN, r.Key, l.At, l.Len))
	}
	return file + footFrame(api.Ending{Count: len(frames), Print: printByWords(s)}), api.OK
}

// formByWords is what bytes have that are a hint file by their form.
func formByWords(s string) ([]api.Pointer, api.Ending, bool) {
	frames, all := framesByWords(s)
	foots := 0
	for _, l := range frames {
		if ofKind(api.Foot)(l) {
			foots++
		}
	}
	if !all || foots != 1 || frames[len(frames)-1].Frame.Kind != api.Foot || slices.ContainsFunc(frames, ofKind(api.Put, api.Delete)) {
		return nil, api.Ending{}, false
	}
	e := frames[len(frames)-1].Frame.Ending
	var pointers []api.Pointer
	for _, l := range frames[:len(frames)-1] {
		pointers = append(pointers, l.Frame.Pointer)
	}
	for i, p := range pointers {
		if i == 0 && p.At != 0 || i > 0 && p.At != pointers[i-1].At+pointers[i-1].Len {
			return nil, api.Ending{}, false
		}
	}
	reach := 0
	if n := len(pointers); n > 0 {
		reach = pointers[n-1].At + pointers[n-1].Len
	}
	fits := e.Count == len(pointers) && e.Print.Frames == len(pointers) && e.Print.Bytes == reach
	return pointers, e, fits
}

func loadByWords(s string, print api.Print) ([]api.Pointer, api.Verdict) {
	pointers, e, ok := formByWords(s)
	if !ok {
		return nil, api.HintDamaged
	}
	if e.Print != print {
		return nil, api.HintStale
	}
	return pointers, api.HintFine
}

func checkByWords(s string, p api.Pointer) bool {
	frames, _ := framesByWords(s)
	for _, l := range frames {
		r := l.Frame.Record
		if ofKind(api.Put, api.Delete)(l) && l.At == p.At && l.Len == p.Len && r.LSN == p.LSN && r.Kind == p.Kind && r.Key == p.Key {
			return true
		}
	}
	return false
}

// verdicts are the words for them, for what a test says.
var verdicts = []string{"none", "fine", "missing", "stale", "damaged", "forged", "orphan"}

// said are pointers in few words.
func said(l ...api.Pointer) string {
	var words []string
	for _, p := range l[:min(len(l), 5)] {
		words = append(words, fmt.Sprintf("%d %d %.20q at %d, %d", p.LSN, p.Kind, p.Key, p.At, p.Len))
	}
	return fmt.Sprintf("%d pointers: %s", len(l), strings.Join(words, "; "))
}

func checkOf(t *testing.T, s, want string, wantErrno api.Errno) {
	t.Helper()
	got, errno := hint.Of([]byte(s))
	if string(got) != want || errno != wantErrno {
		t.Errorf("Of(%.80x) = %.200x (%d bytes), %d, want %.200x (%d bytes), %d", s, got, len(got), errno, want, len(want), wantErrno)
	}
}

func checkLoad(t *testing.T, s string, print api.Print, want []api.Pointer, wantVerdict api.Verdict) {
	t.Helper()
	got, verdict := hint.Load([]byte(s), print)
	if !slices.Equal(got, want) || verdict != wantVerdict {
		t.Errorf("Load(%.200x, %v) = %s, %s, want %s, %s", s, print, said(got...), verdicts[verdict], said(want...), verdicts[wantVerdict])
	}
}

func checkCheck(t *testing.T, s string, p api.Pointer, want bool) {
	t.Helper()
	if got := hint.Check([]byte(s), p); got != want {
		t.Errorf("Check(%.80x, %s) = %v", s, said(p), got)
	}
}

// What the tests take for frames are frames: else they would test nothing.
func TestTheTestsHaveFrames(t *testing.T) {
	if whole(put(1, "k", "v")) != "\xa7\x00\x00\x05\x01\x01\x01kv\x0e\x7d\x39\x08\x4c" {
		t.Errorf("the small frame is %x", whole(put(1, "k", "v")))
	}
	p, e := to(api.Delete, 0xa7a6, "\xa7\xa6k", 0xa7, 4194304), end(0xa7, 4194304, 0xa6, 1<<32-1)
	r, g := put(1<<64-1, strings.Repeat("\xa7", 64), strings.Repeat("\xa6", 2048)), gone(0xa7, "k")
	want := []api.Frame{{Kind: api.Hint, Pointer: p}, {Kind: api.Foot, Ending: e}, frame.Of(r), frame.Of(g)}
	frames, all := framesByWords(hintFrame(p) + footFrame(e) + laid(r, g))
	if len(frames) != len(want) || !all {
		t.Fatalf("there are %d frames", len(frames))
	}
	for i, l := range frames {
		if l.Frame != want[i] {
			t.Errorf("frame %d is %v", i, l.Frame)
		}
	}
}
