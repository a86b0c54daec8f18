package merge_test

import (
	"fmt"
	"slices"
	"strings"
	"testing"

	"salvor/api"
	"salvor/merge"
)

func TestKeepOfTheChaptersExamples(t *testing.T) {
	a1, a2, d2, b3 := put(1, "a", "x"), put(2, "a", "y"), gone(2, "a"), put(3, "b", "z")
	checkKeep(t, segments(laid(a1, a2)), a2)
	checkKeep(t, segments(laid(a1), laid(d2)), d2)
	checkKeep(t, segments(laid(d2, b3)), b3)
	checkKeep(t, segments(laid(a1, d2, b3)), d2, b3)
	checkKeep(t, segments(laid(d2, b3)), b3) // merged once more
	checkKeep(t, segments(laid(a1)+"junk", laid(d2)), d2)
}

func TestKeepOfNothing(t *testing.T) {
	some := laid(put(1, "a", "x"), gone(2, "a"))
	checkKeep(t, nil)
	checkKeep(t, []api.File{})
	checkKeep(t, segments("", "", ""))
	checkKeep(t, segments("junk", foot, pointer, "\xa7", some[1:len(some)-1]))
	// no segments
	checkKeep(t, files("other", some, hint1, some, hint1, rightFor(put(1, "a", "x")), "bad-00000001.bin", some, seg1+".tmp", some, ".tmp", some,
		"seg-00000000.log", some, "SEG-00000001.log", some, "seg-0000000A.log", some, "seg-1.log", some, "", some, name60, some, name61, some))
	// a segment without a record beside them
	checkKeep(t, append(segments(""), files("other", some)...))
}

// Each record has been overwritten but the last one, wherever that stands.
func TestKeepOfWhatWasOverwritten(t *testing.T) {
	l := []api.Record{put(1, "a", "x"), put(5, "a", "y"), put(3, "a", "z"), gone(2, "a"), gone(4, "a")}
	for i := range l {
		turned := slices.Concat(l[i:], l[:i])
		checkKeep(t, segments(laid(turned...)), l[1])
		checkKeep(t, segments(laid(turned[:2]...), laid(turned[2:]...)), l[1])
		checkKeep(t, segments(laid(turned[:1]...), "", laid(turned[1:3]...), laid(turned[3:]...)), l[1])
	}
	checkKeep(t, segments(laid(put(1, "a", "x"), put(2, "b", "y"), put(3, "c", ""))), put(1, "a", "x"), put(2, "b", "y"), put(3, "c", ""))
}

func TestKeepOfADeleteThatHidesARecord(t *testing.T) {
	d, last := gone(9, "a"), put(20, "z", "")
	for _, hidden := range []api.Record{
		put(1, "a", "x"), put(8, "a", ""), gone(1, "a"), gone(8, "a"), // of any kind, with any LSN
		put(9, "a", "x"), put(9, "a", ""), // with its own one, where the Put's body is less
	} {
		checkKeep(t, segments(laid(hidden, d, last)), d, last)
		checkKeep(t, segments(laid(d, hidden, last)), d, last)
		checkKeep(t, segments(laid(d), laid(last), laid(hidden)), d, last)
		// in a segment that is no old one
		for _, behind := range []string{"junk", foot, pointer, "\xa7"} {
			checkKeep(t, segments(laid(d, last), laid(hidden)+behind), d, last)
			checkKeep(t, segments(behind+laid(hidden), laid(d, last)), d, last)
		}
		// also if the Delete stands there too
		checkKeep(t, segments(laid(d, last), laid(hidden, d)+"junk"), d, last)
		checkKeep(t, segments(laid(d), laid(hidden, last, d)), d, last)
	}
}

func TestKeepOfADeleteThatHidesNothing(t *testing.T) {
	d, last := gone(9, "a"), put(20, "z", "")
	checkKeep(t, segments(laid(d, last)), last)
	checkKeep(t, segments(laid(d), laid(last)), last)
	// copies are no other records
	checkKeep(t, segments(laid(d, d, last)), last)
	checkKeep(t, segments(laid(d), laid(d), laid(last)), last)
	checkKeep(t, segments(laid(d)+"junk", laid(d, last)), last)
	checkKeep(t, segments(laid(d)+foot, laid(d, last)), last)
	// nor are those of other keys, or what is no record of a segment
	checkKeep(t, segments(laid(d, put(1, "aa", "x"), gone(9, "b"), last), whole(put(1, "a", ""))[1:]), put(1, "aa", "x"), last)
	checkKeep(t, append(segments(laid(d, last), pointer), files("other", laid(put(1, "a", "x")), hint1, laid(put(1, "a", "x")), seg3+".tmp", laid(put(1, "a", "x")))...), last)
}

func TestKeepOfADeleteWithTheGreatestLSN(t *testing.T) {
	d := gone(9, "a")
	checkKeep(t, segments(laid(d)), d)
	checkKeep(t, segments(laid(put(8, "z", ""), d)), put(8, "z", ""), d)
	checkKeep(t, segments(laid(d), laid(put(8, "z", ""))), put(8, "z", ""), d)
	checkKeep(t, segments(laid(d)+"junk", laid(d)), d)
	checkKeep(t, segments(laid(gone(1<<64-1, "a"), put(1<<63, "b", ""))), put(1<<63, "b", ""), gone(1<<64-1, "a"))
	// with others that have it, too
	checkKeep(t, segments(laid(d, gone(9, "b"), put(9, "c", ""), gone(8, "d"))), d, gone(9, "b"), put(9, "c", ""))
	// the greatest is that of all segments, also of those that are no old ones
	checkKeep(t, segments(laid(d), laid(put(10, "z", ""))+"junk"))
	checkKeep(t, segments(laid(d), foot+laid(gone(10, "z"))))
	checkKeep(t, segments(laid(d), foot+laid(gone(9, "z"))), d)
	// but not of what is no segment, or no record
	checkKeep(t, append(segments(laid(d), hintFrame(api.Pointer{LSN: 10, Kind: api.Put, Len: 1, Key: "z"})), files("other", laid(put(10, "z", "")), hint1, rightFor(put(10, "z", "")))...), d)
}

// A segment that is no old one: what stands there counts, and hides others, but is not kept.
func TestKeepOfASegmentThatIsNoOldOne(t *testing.T) {
	x, y := put(4, "a", "x"), put(5, "a", "y")
	for _, l := range [][]string{{"junk", ""}, {"", "junk"}, {"", foot}, {foot, ""}, {pointer, foot}, {"", "\xa7"}, {laid(put(1, "c", ""))[:9], ""}} {
		no := func(records ...api.Record) string { return l[0] + laid(records...) + l[1] }
		checkKeep(t, segments(no(x)))
		checkKeep(t, segments(no(y), laid(x)))
		checkKeep(t, segments(no(x), laid(y)), y)
		checkKeep(t, segments(laid(x), no(gone(5, "a"))))
		checkKeep(t, segments(laid(x), no(put(4, "a", "y")))) // its body is greater
		checkKeep(t, segments(laid(x), no(put(4, "a", "w"))), x)
		checkKeep(t, segments(no(x), no(y)))
		// what counts stands in both
		checkKeep(t, segments(no(y), laid(x, y)), y)
		checkKeep(t, segments(laid(y), no(x, y)), y)
	}
	// junk in the midst, or a frame of another kind
	checkKeep(t, segments(laid(x)+"j"+laid(y), laid(put(1, "b", ""))), put(1, "b", ""))
	checkKeep(t, segments(laid(x)+pointer+laid(y), laid(put(1, "b", ""))), put(1, "b", ""))
}

func TestKeepOfRecordsOfOneKeyWithOneLSN(t *testing.T) {
	rising := []api.Record{put(5, "a", ""), put(5, "a", "\x00"), put(5, "a", "x"), put(5, "a", "xx"), put(5, "a", "y"), put(5, "a", "\xff"), gone(5, "a")}
	for i, greater := range rising {
		for _, less := range rising[:i] {
			checkKeep(t, segments(laid(less, greater)), greater)
			checkKeep(t, segments(laid(greater), laid(less)), greater)
			checkKeep(t, segments(laid(greater), laid(less)+"junk"), greater)
			checkKeep(t, segments(laid(less), laid(greater)+"junk"))
		}
		checkKeep(t, segments(laid(rising[:i+1]...)), greater)
	}
	// the longer key makes the greater body, but it is another key
	checkKeep(t, segments(laid(put(5, "ab", ""), put(5, "a", "b"))), put(5, "a", "b"), put(5, "ab", ""))
}

// By LSN, those with one LSN by keys, byte by byte: not as the records stand, nor by their bodies.
func TestKeepInOrder(t *testing.T) {
	keys := []string{"\x00", "\x00\x00", "A", "a", "a\x00", "aa", "ab", "b", strings.Repeat("b", 44), "\x7f", "\x80", "é", "\xff"}
	var want, others []api.Record
	for _, lsn := range []uint64{1, 2, 127, 128, 255, 256, 1<<63 - 1, 1 << 63, 1<<64 - 1} {
		for i, key := range keys {
			if lsn == 1<<64-1 && i%2 == 0 {
				want = append(want, gone(lsn, fmt.Sprintf("%s%d", key, lsn)))
			} else {
				want = append(want, put(lsn, fmt.Sprintf("%s%d", key, lsn), strings.Repeat("v", len(keys)-i)))
			}
		}
	}
	slices.SortStableFunc(want, func(x, y api.Record) int {
		if x.LSN != y.LSN {
			return 0
		}
		return strings.Compare(x.Key, y.Key)
	})
	r := source()
	for range 50 {
		others = slices.Clone(want)
		r.Shuffle(len(others), func(i, k int) { others[i], others[k] = others[k], others[i] })
		at := r.Intn(len(others))
		checkKeep(t, segments(laid(others[:at]...), laid(others[at:]...)), want...)
	}
}

func TestKeepOfARecordThatStandsTwice(t *testing.T) {
	x, y := put(4, "a", "x"), gone(5, "b")
	checkKeep(t, segments(laid(x, x)), x)
	checkKeep(t, segments(laid(x), laid(x)), x)
	checkKeep(t, segments(laid(x), laid(x)+"junk"), x)
	checkKeep(t, segments(laid(x)+"junk", laid(x)+foot))
	checkKeep(t, segments(laid(x, y), laid(y, x), laid(x)), x, y)
	checkKeep(t, segments(laid(x, x, put(6, "a", ""), put(6, "a", ""), x)), put(6, "a", ""))
}

// Each file counts, whatever others have its name; they may be of both sorts.
func TestKeepOfNamesThatStandTwice(t *testing.T) {
	x, y, d := put(4, "a", "x"), put(5, "a", "y"), gone(6, "a")
	checkKeep(t, files(seg1, laid(x), seg1, laid(y)), y)
	checkKeep(t, files(seg1, laid(y), seg1, laid(x)), y)
	checkKeep(t, files(seg1, laid(x), seg1, laid(y)+"junk"))
	checkKeep(t, files(seg1, laid(x)+"junk", seg1, laid(y)), y)
	checkKeep(t, files(seg1, "junk", seg1, laid(put(1, "c", "")), seg1, foot, seg1, laid(y)), put(1, "c", ""), y)
	checkKeep(t, files(seg1, laid(d, put(7, "b", "")), seg1, laid(x)), d, put(7, "b", ""))
	checkKeep(t, files(seg1, laid(d, put(7, "b", "")), seg1, laid(d)), put(7, "b", ""))
	checkKeep(t, files("other", laid(x), "other", laid(y), "", laid(x), "", laid(y), seg1, laid(x), seg1, laid(x)), x)
}

// Numbers and names change nothing, as long as they are a segment's.
func TestKeepOfAnyNumbers(t *testing.T) {
	x, y, z := put(4, "a", "x"), put(5, "a", "y"), put(6, "b", "z")
	for _, l := range [][]string{{"seg-00000001.log", "seg-ffffffff.log"}, {"seg-ffffffff.log", "seg-00000001.log"}, {"seg-0000000a.log", "seg-00000009.log"}} {
		checkKeep(t, files(l[0], laid(x, z), l[1], laid(y)), y, z)
	}
}

// Hint files are not looked at, whatever they say.
func TestKeepDoesNotLookAtHintFiles(t *testing.T) {
	x, y := put(4, "a", "x"), put(5, "a", "y")
	for _, hints := range []string{"", "x", rightFor(x, y), rightFor(x), rightFor(put(9, "a", "x"), y), laid(gone(9, "a"))} {
		checkKeep(t, files(seg1, laid(x, y), hint1, hints, hint2, hints), y)
		checkKeep(t, files(seg1, laid(x, y)+"x", hint1, hints, seg2, laid(x)))
	}
}

// More bytes than a disk can have: such files may be handed in to Keep, and a segment is no less clean for being long.
func TestKeepOfMoreThanADiskHas(t *testing.T) {
	value := strings.Repeat("v", api.MaxValue)
	var great []byte
	n := uint64(0)
	for len(great) <= api.MaxDisk {
		n++
		great = append(great, whole(put(n, "a", value))...)
	}
	l := []api.File{{Name: seg1, Data: great}, {Name: seg2, Data: great[:len(great)-1]}}
	if got, want := merge.Keep(l...), []api.Record{put(n, "a", value)}; !slices.Equal(got, want) {
		t.Errorf("Keep of %d records = %d records", n, len(got))
	}
	if got := merge.Keep(l[1]); len(got) > 0 {
		t.Errorf("Keep of %d records and half a one = %d records", n-1, len(got))
	}
}

// Every segment of up to four pieces, alone and beside another one, old or not.
func TestKeepOfEveryShortSegment(t *testing.T) {
	pieces := []string{
		laid(put(1, "a", "x")), laid(put(2, "a", "y")), laid(gone(2, "a")), laid(gone(3, "a")), laid(put(2, "b", "")), laid(gone(4, "b")), "junk", foot,
	}
	others := []string{"", laid(put(1, "a", "x")), laid(gone(2, "a")) + "junk", laid(put(4, "b", "z"), gone(3, "a"))}
	check := func(l []api.File) {
		t.Helper()
		if got, want := merge.Keep(l...), keepByWords(l); !slices.Equal(got, want) {
			t.Fatalf("Keep of %s = %v, want %v", sayFiles(l), got, want)
		}
	}
	var lay func(s string, left int)
	lay = func(s string, left int) {
		for _, other := range others {
			check(segments(s, other))
		}
		if left == 0 {
			return
		}
		for _, piece := range pieces {
			lay(s+piece, left-1)
		}
	}
	lay("", 4)
}
