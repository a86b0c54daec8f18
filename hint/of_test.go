package hint_test

import (
	"slices"
	"strings"
	"testing"

	"salvor/api"
	"salvor/hint"
)

func TestOfNothing(t *testing.T) {
	want := framed("\x04\x00\x00\x00\x00")
	b := []byte(laid(put(1, "k", "v")))
	for _, none := range [][]byte{nil, {}, b[:0], b[14:], b[5:5]} {
		if got, errno := hint.Of(none); string(got) != want || errno != api.OK {
			t.Errorf("Of nothing = %x, %d, want %x", got, errno, want)
		}
	}
}

// Of the document's first frame, byte by byte.
func TestOfTheSmallFrame(t *testing.T) {
	const small = "\xa7\x00\x00\x05\x01\x01\x01kv\x0e\x7d\x39\x08\x4c"
	want := framed("\x03\x01\x01\x00\x0ek") + framed("\x04\x01\x0e\x01"+varint(uint64(sumByWords(small))))
	checkOf(t, small, want, api.OK)
}

// records are some of every sort that a record may be of.
func records() []api.Record {
	return []api.Record{
		put(1, "k", "v"), put(1, "k", ""), gone(1, "k"), gone(2, "k"), put(0xa7, "\xa7", "\xa7"), gone(0xa6, "\xa6"),
		put(0xa6a7, "\xa6\xa7\x00", "\xa7\xa6"), put(1<<64-1, strings.Repeat("k", 64), strings.Repeat("v", 2048)),
		gone(1<<64-1, strings.Repeat("\xa7", 64)), put(127, strings.Repeat("\xa6", 64), strings.Repeat("\xa7", 2048)),
		put(128, "\x00", "\x00"), gone(16384, "\xff"), put(3, "seg", laid(put(4, "within", "another"))), put(1<<63, "k", "\xa6\x01"),
	}
}

func TestOfOneFrame(t *testing.T) {
	for _, r := range records() {
		checkOf(t, laid(r), rightFor(r), api.OK)
	}
}

func TestOfManyFrames(t *testing.T) {
	l := records()
	for i := range l {
		checkOf(t, laid(l[:i]...), rightFor(l[:i]...), api.OK)
		checkOf(t, laid(l[i:]...), rightFor(l[i:]...), api.OK)
		for k := range l {
			checkOf(t, laid(l[i], l[k]), rightFor(l[i], l[k]), api.OK)
		}
	}
	slices.Reverse(l)
	checkOf(t, laid(l...), rightFor(l...), api.OK)
}

// The order is the segment's, not that of the numbers or the keys; what stands twice is pointed to twice.
func TestOfKeepsTheOrderOfTheFrames(t *testing.T) {
	a, b, c := put(9, "z", "1"), gone(3, "a"), put(3, "a", "2")
	checkOf(t, laid(a, b, a, a, c), rightFor(a, b, a, a, c), api.OK)
	file, _ := hint.Of([]byte(laid(a, b, a, a, c)))
	got, verdict := hint.Load(file, printFor(a, b, a, a, c))
	want := []api.Pointer{
		to(api.Put, 9, "z", 0, 14), to(api.Delete, 3, "a", 14, 12), to(api.Put, 9, "z", 26, 14), to(api.Put, 9, "z", 40, 14), to(api.Put, 3, "a", 54, 14),
	}
	if !slices.Equal(got, want) || verdict != api.HintFine {
		t.Errorf("it has %s, %s", said(got...), verdicts[verdict])
	}
}

// A segment's other ways to be: with junk at every place between two frames, ahead and behind.
func TestOfASegmentWithJunk(t *testing.T) {
	l := []api.Record{put(1, "k", "v"), gone(2, "k"), put(3, "key", "value")}
	small := laid(l[0])
	wrong := strings.Replace(small, "v", "w", 1)
	for _, junk := range []string{"\x00", "x", "\xa7", "\xa7\xa7", small[:13], small[1:], small[:1], wrong, framed(""), framed("\x05\x01k"), framed("\x01\x00\x01kv"), "\xa7\x7f\x7f\x7f"} {
		checkOf(t, junk, "", api.ErrHintDirty)
		for i := range len(l) + 1 {
			checkOf(t, laid(l[:i]...)+junk+laid(l[i:]...), "", api.ErrHintDirty)
		}
	}
	s := laid(l...)
	for i := 1; i < len(s); i++ {
		if i != 14 && i != 26 {
			checkOf(t, s[:i], "", api.ErrHintDirty)
			checkOf(t, s[i:], "", api.ErrHintDirty)
		}
		checkOf(t, s[:i]+"\x00"+s[i:], "", api.ErrHintDirty)
		checkOf(t, s[:i-1]+string([]byte{s[i-1] ^ 1})+s[i:], "", api.ErrHintDirty)
	}
}

func TestOfASegmentWithAPointerOrAnEnding(t *testing.T) {
	l := []api.Record{put(1, "k", "v"), gone(2, "k"), put(3, "key", "value")}
	for _, f := range []string{hintFrame(to(api.Put, 1, "k", 0, 14)), hintFrame(to(api.Delete, 1, "k", 14, 12)), footFrame(api.Ending{}), footFrame(end(1, 14, 1, 7)), rightFor(), rightFor(l...)} {
		checkOf(t, f, "", api.ErrHintDirty)
		for i := range len(l) + 1 {
			checkOf(t, laid(l[:i]...)+f+laid(l[i:]...), "", api.ErrHintDirty)
		}
	}
}

// A list that ends within its memory: what stands behind it counts for nothing.
func TestOfAPartOfAList(t *testing.T) {
	a, b := put(1, "k", "v"), gone(2, "k")
	room := []byte("x" + laid(a, b) + "x")
	for _, c := range []struct {
		from, to int
		want     string
	}{{1, 15, rightFor(a)}, {15, 27, rightFor(b)}, {1, 27, rightFor(a, b)}} {
		if got, errno := hint.Of(room[c.from:c.to]); string(got) != c.want || errno != api.OK {
			t.Errorf("from %d to %d: %x, %d, want %x", c.from, c.to, got, errno, c.want)
		}
	}
	roomy := append(make([]byte, 0, 5000000), laid(a, b)...) // nor does how much room there is
	if got, errno := hint.Of(roomy); string(got) != rightFor(a, b) || errno != api.OK {
		t.Errorf("of a list with much spare room: %x, %d", got, errno)
	}
	for _, c := range [][2]int{{0, 15}, {1, 14}, {1, 16}, {1, 26}, {1, 28}, {2, 27}} {
		if got, errno := hint.Of(room[c[0]:c[1]]); len(got) != 0 || errno != api.ErrHintDirty {
			t.Errorf("from %d to %d: %x, %d", c[0], c[1], got, errno)
		}
	}
}

// full is records whose frames have so many bytes together.
func full(t *testing.T, size int) []api.Record {
	t.Helper()
	var l []api.Record
	for at := 0; at < size; {
		next := 1024
		if left := size - at; left < 2048 {
			next = left
		}
		l = append(l, sized(t, uint64(len(l)+1), next))
		at += next
	}
	return l
}

// strung is laid of many, in few steps.
func strung(l []api.Record) string {
	var b strings.Builder
	for _, r := range l {
		b.WriteString(whole(r))
	}
	return b.String()
}

// rightForMany is rightFor of many, in few steps.
func rightForMany(l []api.Record, print api.Print) string {
	var b strings.Builder
	for _, p := range pointersTo(l...) {
		b.WriteString(hintFrame(p))
	}
	return b.String() + footFrame(api.Ending{Count: len(l), Print: print})
}

func TestOfAsManyBytesAsMayBe(t *testing.T) {
	for _, size := range []int{4194303, 4194304} {
		l := full(t, size)
		s := strung(l)
		if len(s) != size {
			t.Fatalf("there are %d bytes", len(s))
		}
		print := api.Print{Bytes: size, Frames: len(l), Sum: sumByWords(s)}
		want := rightForMany(l, print)
		checkOf(t, s, want, api.OK)
		checkLoad(t, want, print, pointersTo(l...), api.HintFine)
		checkOf(t, s[:size-1], "", api.ErrHintDirty)
		checkOf(t, "x"+s[1:], "", api.ErrHintDirty)
	}
	for _, size := range []int{4194305, 4194306, 4194304 + 14, 2 * 4194304} { // clean but for how many they are
		checkOf(t, strung(full(t, size)), "", api.ErrHintDirty)
	}
}

// As many frames as a segment can have: none has fewer than twelve bytes.
func TestOfAsManyFramesAsMayBe(t *testing.T) {
	l := slices.Repeat([]api.Record{gone(1, "k")}, 349524)
	l = append(l, put(2, "k", "vwx"))
	s := strung(l)
	if len(s) != 4194304 {
		t.Fatalf("there are %d bytes", len(s))
	}
	print := api.Print{Bytes: 4194304, Frames: 349525, Sum: sumByWords(s)}
	want := rightForMany(l, print)
	checkOf(t, s, want, api.OK)
	pointers := pointersTo(l...)
	checkLoad(t, want, print, pointers, api.HintFine)
	b := []byte(s)
	for i, p := range pointers {
		if !hint.Check(b, p) {
			t.Fatalf("Check of pointer %d = false", i)
		}
	}
}

func TestOfManyLeadBytes(t *testing.T) {
	for _, junk := range []string{"\xa7", "\xa7\x00\x00\x05", "\xa7\x00\x10\x00"} {
		many := strings.Repeat(junk, 4194304/len(junk))
		checkOf(t, many, "", api.ErrHintDirty)
		checkOf(t, laid(put(1, "k", "v"))+many[:100000], "", api.ErrHintDirty)
		checkLoad(t, many, api.Print{}, nil, api.HintDamaged)
		checkLoad(t, many[:100000]+rightFor(), api.Print{}, nil, api.HintDamaged)
		checkCheck(t, many, to(api.Put, 1, "k", 0, 14), false)
	}
}
