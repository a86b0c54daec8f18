package hint_test

import (
	"math"
	"slices"
	"strings"
	"testing"

	"salvor/api"
	"salvor/hint"
)

// three are pointers that lie one behind the other, and threeEnd the ending behind them.
func three() []api.Pointer {
	return []api.Pointer{to(api.Put, 7, "a", 0, 14), to(api.Delete, 2, "bb", 14, 13), to(api.Put, 9, "\xa7", 27, 20)}
}

func threeEnd() api.Ending { return end(3, 47, 3, 0xa7a6a5a4) }

// turned is the hint file of three pointers, in which something was changed.
func turned(turn func(l []api.Pointer, e *api.Ending)) string {
	l, e := three(), threeEnd()
	turn(l, &e)
	return hints(e, l...)
}

// damaged holds that bytes are no hint file, whatever the fingerprint.
func damaged(t *testing.T, what, s string) {
	t.Helper()
	for _, print := range []api.Print{threeEnd().Print, {}, {Bytes: len(s)}, {Bytes: 46, Frames: 3}, {Bytes: 14, Frames: 1}} {
		if got, verdict := hint.Load([]byte(s), print); len(got) != 0 || verdict != api.HintDamaged {
			t.Errorf("%s: Load(%.100x, %v) = %s, %s", what, s, print, said(got...), verdicts[verdict])
		}
	}
}

func TestLoadOfAHintFile(t *testing.T) {
	fine := turned(func([]api.Pointer, *api.Ending) {})
	checkLoad(t, fine, threeEnd().Print, three(), api.HintFine)
	for _, l := range [][]api.Record{records()[:1], records()[:5], records()} {
		checkLoad(t, rightFor(l...), printFor(l...), pointersTo(l...), api.HintFine)
	}
}

func TestLoadOfNoBytes(t *testing.T) {
	damaged(t, "no bytes", "")
	for _, none := range [][]byte{nil, {}, []byte(rightFor())[:0]} {
		if got, verdict := hint.Load(none, api.Print{}); len(got) != 0 || verdict != api.HintDamaged {
			t.Errorf("Load of no bytes = %s, %s", said(got...), verdicts[verdict])
		}
	}
}

func TestLoadOfAFootAlone(t *testing.T) {
	checkLoad(t, rightFor(), api.Print{}, nil, api.HintFine)
	checkLoad(t, footFrame(end(0, 0, 0, 5)), api.Print{Sum: 5}, nil, api.HintFine) // no segment has it, but its form is right
	checkLoad(t, footFrame(end(0, 0, 0, 5)), api.Print{}, nil, api.HintStale)
	checkLoad(t, rightFor(), api.Print{Sum: 1}, nil, api.HintStale)
	damaged(t, "bytes without a pointer", footFrame(end(0, 1, 0, 0)))
	damaged(t, "bytes without a pointer", footFrame(end(0, 47, 0, 0xa7a6a5a4)))
	damaged(t, "a frame without a pointer", footFrame(end(0, 0, 1, 0)))
	damaged(t, "a count without a pointer", footFrame(end(1, 0, 0, 0)))
	damaged(t, "a count, a frame and bytes without a pointer", footFrame(end(1, 14, 1, 0)))
	damaged(t, "an ending for three pointers, without them", footFrame(threeEnd()))
}

func TestLoadOfPointersWithoutAFoot(t *testing.T) {
	s := ""
	for i, p := range three() {
		s += hintFrame(p)
		damaged(t, "no Foot", s)
		foot := footFrame(end(i+1, p.At+p.Len, i+1, 0))
		for cut := 1; cut <= len(foot); cut++ {
			damaged(t, "a Foot that is cut off", s+foot[:len(foot)-cut])
			damaged(t, "a Foot that has lost its beginning", s+foot[cut:])
		}
	}
}

func TestLoadOfMoreThanOneFoot(t *testing.T) {
	fine := turned(func([]api.Pointer, *api.Ending) {})
	foot, empty := footFrame(threeEnd()), footFrame(api.Ending{})
	damaged(t, "two Foots", fine+foot)
	damaged(t, "two Foots", fine+empty)
	damaged(t, "two Foots, one ahead", foot+fine)
	damaged(t, "two Foots, one ahead", empty+fine)
	damaged(t, "two Foots alone", empty+empty)
	damaged(t, "two hint files", fine+fine)
	damaged(t, "two hint files", rightFor()+fine)
	l := three()
	damaged(t, "a Foot among the pointers", hintFrame(l[0])+empty+hintFrame(l[1])+hintFrame(l[2])+foot)
	damaged(t, "a Foot among the pointers, right where it stands", hintFrame(l[0])+footFrame(end(1, 14, 1, 0))+hintFrame(l[1])+hintFrame(l[2])+foot)
	damaged(t, "the Foot ahead", foot+hintFrame(l[0])+hintFrame(l[1])+hintFrame(l[2]))
	damaged(t, "the Foot ahead of the last", hintFrame(l[0])+hintFrame(l[1])+foot+hintFrame(l[2]))
	damaged(t, "a pointer behind the Foot that counts it not", fine+hintFrame(to(api.Put, 1, "k", 47, 14)))
}

// Bytes that are none of a frame, ahead, behind and at every place; and each byte changed or left out.
func TestLoadOfAFileWithJunk(t *testing.T) {
	fine := turned(func([]api.Pointer, *api.Ending) {})
	for _, junk := range []string{"\x00", "x", "\xa7", framed("\x05"), fine[:5]} {
		for i := range len(fine) + 1 {
			damaged(t, "junk", fine[:i]+junk+fine[i:])
		}
		damaged(t, "junk", junk+rightFor())
		damaged(t, "junk", rightFor()+junk)
		damaged(t, "junk alone", junk)
	}
	for i := range fine {
		damaged(t, "a byte is left out", fine[:i]+fine[i+1:])
		damaged(t, "a byte is changed", fine[:i]+string([]byte{fine[i] ^ 1})+fine[i+1:])
		damaged(t, "the beginning alone", fine[:i])
		if at := len(fine) - i; i > 0 {
			damaged(t, "the end alone", fine[at:])
		}
	}
}

// The list's end is the file's end, whatever stands behind it.
func TestLoadOfAPartOfAList(t *testing.T) {
	fine := turned(func([]api.Pointer, *api.Ending) {})
	room := []byte("x" + fine + footFrame(api.Ending{}))
	if got, verdict := hint.Load(room[1:1+len(fine)], threeEnd().Print); !slices.Equal(got, three()) || verdict != api.HintFine {
		t.Errorf("Load = %s, %s", said(got...), verdicts[verdict])
	}
	if _, verdict := hint.Load(room[1:len(fine)], threeEnd().Print); verdict != api.HintDamaged {
		t.Errorf("without its last byte it is %s", verdicts[verdict])
	}
}

func TestLoadOfAFileWithARecord(t *testing.T) {
	l, foot := three(), footFrame(threeEnd())
	for _, r := range []api.Record{put(1, "k", "v"), gone(1, "k"), put(7, "a", "x")} {
		damaged(t, "a record ahead", whole(r)+hints(threeEnd(), l...))
		damaged(t, "a record among the pointers", hintFrame(l[0])+whole(r)+hintFrame(l[1])+hintFrame(l[2])+foot)
		damaged(t, "a record ahead of the Foot", hintFrame(l[0])+hintFrame(l[1])+hintFrame(l[2])+whole(r)+foot)
		damaged(t, "a record behind", hints(threeEnd(), l...)+whole(r))
		damaged(t, "a record in a pointer's place", whole(r)+hintFrame(l[1])+hintFrame(l[2])+foot)
		damaged(t, "a record in a pointer's place", hintFrame(l[0])+hintFrame(l[1])+whole(r)+foot)
		damaged(t, "a record in the Foot's place", hintFrame(l[0])+hintFrame(l[1])+hintFrame(l[2])+whole(r))
		damaged(t, "a record and no pointer", whole(r)+rightFor())
		damaged(t, "a record alone", whole(r))
		damaged(t, "a record, and a Foot that counts it", whole(r)+footFrame(end(1, 0, 1, 0)))
		damaged(t, "a record, and a Foot that counts it and its bytes", whole(r)+footFrame(api.Ending{Count: 1, Print: printFor(r)}))
	}
}

func TestLoadWithNumbersThatDoNotFit(t *testing.T) {
	for _, by := range []int{-3, -2, -1, 1, 2, 1000} {
		damaged(t, "Count", turned(func(_ []api.Pointer, e *api.Ending) { e.Count += by }))
		damaged(t, "Frames", turned(func(_ []api.Pointer, e *api.Ending) { e.Print.Frames += by }))
		damaged(t, "both", turned(func(_ []api.Pointer, e *api.Ending) { e.Count += by; e.Print.Frames += by }))
		damaged(t, "Count and Frames, one up, one down", turned(func(_ []api.Pointer, e *api.Ending) { e.Count += by; e.Print.Frames = max(0, 3-by) }))
		damaged(t, "Bytes", turned(func(_ []api.Pointer, e *api.Ending) { e.Print.Bytes += by }))
	}
	damaged(t, "Bytes 0", turned(func(_ []api.Pointer, e *api.Ending) { e.Print.Bytes = 0 }))
	damaged(t, "the last one's At as Bytes", turned(func(_ []api.Pointer, e *api.Ending) { e.Print.Bytes = 27 }))
	damaged(t, "the last one's Len as Bytes", turned(func(_ []api.Pointer, e *api.Ending) { e.Print.Bytes = 20 }))
	damaged(t, "the most of all", turned(func(_ []api.Pointer, e *api.Ending) { *e = end(4194304, 4194304, 4194304, 1<<32-1) }))
}

func TestLoadOfPointersThatDoNotFollow(t *testing.T) {
	for _, by := range []int{1, 2, 14, 4194304 - 27} {
		damaged(t, "a first At that is not 0", turned(func(l []api.Pointer, e *api.Ending) { l[0].At += by }))
		damaged(t, "all further on", turned(func(l []api.Pointer, e *api.Ending) {
			for i := range l {
				l[i].At += by
			}
		}))
		damaged(t, "all further on, and the end too", turned(func(l []api.Pointer, e *api.Ending) {
			for i := range l {
				l[i].At += by
			}
			e.Print.Bytes = min(4194304, e.Print.Bytes+by)
		}))
		damaged(t, "a gap", turned(func(l []api.Pointer, e *api.Ending) { l[1].At += by }))
		damaged(t, "a gap ahead of the last", turned(func(l []api.Pointer, e *api.Ending) { l[2].At += by }))
		damaged(t, "a gap, and the end further on", turned(func(l []api.Pointer, e *api.Ending) { l[2].At += by; e.Print.Bytes = min(4194304, 47+by) }))
		damaged(t, "a last one that is too long", turned(func(l []api.Pointer, e *api.Ending) { l[2].Len += by }))
		damaged(t, "one that is too long", turned(func(l []api.Pointer, e *api.Ending) { l[0].Len += by }))
	}
	for _, by := range []int{1, 2, 11, 12} {
		damaged(t, "an overlap", turned(func(l []api.Pointer, e *api.Ending) { l[1].At -= by }))
		damaged(t, "an overlap ahead of the last", turned(func(l []api.Pointer, e *api.Ending) { l[2].At -= by }))
		damaged(t, "an overlap, and the end further ahead", turned(func(l []api.Pointer, e *api.Ending) { l[2].At -= by; e.Print.Bytes -= by }))
		damaged(t, "a last one that is too short", turned(func(l []api.Pointer, e *api.Ending) { l[2].Len -= by }))
		damaged(t, "one that is too short", turned(func(l []api.Pointer, e *api.Ending) { l[1].Len -= by }))
	}
	damaged(t, "one that stands twice", turned(func(l []api.Pointer, e *api.Ending) { l[1] = l[0] }))
	damaged(t, "all at 0", turned(func(l []api.Pointer, e *api.Ending) { l[1].At, l[2].At = 0, 0 }))
	damaged(t, "one alone that is not at 0", hints(end(1, 15, 1, 0), to(api.Put, 1, "k", 1, 14)))
	damaged(t, "one alone that ends elsewhere", hints(end(1, 15, 1, 0), to(api.Put, 1, "k", 0, 14)))
}

// Every order of the three but the right one; and each of them left out, with and without an ending that fits.
func TestLoadOfPointersInAnotherOrder(t *testing.T) {
	l := three()
	for _, order := range [][3]int{{0, 2, 1}, {1, 0, 2}, {1, 2, 0}, {2, 0, 1}, {2, 1, 0}} {
		damaged(t, "another order", hints(threeEnd(), l[order[0]], l[order[1]], l[order[2]]))
	}
	damaged(t, "two changed about", hints(end(2, 27, 2, 0), l[1], l[0]))
	damaged(t, "without the first", hints(threeEnd(), l[1], l[2]))
	damaged(t, "without the first, and counted so", hints(end(2, 47, 2, 0), l[1], l[2]))
	damaged(t, "without the second, and counted so", hints(end(2, 47, 2, 0), l[0], l[2]))
	damaged(t, "without the last, and counted so", hints(end(2, 47, 2, 0), l[0], l[1]))
	damaged(t, "without the last", hints(threeEnd(), l[0], l[1]))
	checkLoad(t, hints(end(2, 27, 2, 0), l[0], l[1]), api.Print{Bytes: 27, Frames: 2}, l[:2], api.HintFine)
	same := []api.Pointer{to(api.Put, 1, "k", 0, 14), to(api.Put, 1, "k", 14, 14)}
	checkLoad(t, hints(end(2, 28, 2, 0), same...), api.Print{Bytes: 28, Frames: 2}, same, api.HintFine)
	damaged(t, "two changed about that differ in At alone", hints(end(2, 28, 2, 0), same[1], same[0]))
}

// A form that is right, for another segment: in one of the three numbers, or in all.
func TestLoadOfAStaleFile(t *testing.T) {
	fine := turned(func([]api.Pointer, *api.Ending) {})
	right := threeEnd().Print
	for _, by := range []int{-1, 1, 1000, 1 << 40, -right.Bytes - 1, math.MinInt, math.MaxInt - 47} {
		print := right
		print.Bytes += by
		checkLoad(t, fine, print, nil, api.HintStale)
		print = right
		print.Frames += by
		checkLoad(t, fine, print, nil, api.HintStale)
	}
	for bit := range 32 {
		print := right
		print.Sum ^= 1 << bit
		checkLoad(t, fine, print, nil, api.HintStale)
	}
	checkLoad(t, fine, api.Print{}, nil, api.HintStale)
	checkLoad(t, fine, api.Print{Bytes: right.Frames, Frames: right.Bytes, Sum: right.Sum}, nil, api.HintStale)
	checkLoad(t, fine, api.Print{Bytes: -1, Frames: -1}, nil, api.HintStale)
	other := turned(func(l []api.Pointer, e *api.Ending) { l[2].Len, e.Print.Bytes = 21, 48 })
	checkLoad(t, other, right, nil, api.HintStale)
	checkLoad(t, rightFor(), right, nil, api.HintStale)
}

// What is wrong in both ways is damaged.
func TestLoadOfAFileThatIsDamagedAndStale(t *testing.T) {
	print := api.Print{Bytes: 47, Frames: 3, Sum: 1}
	checkLoad(t, turned(func(_ []api.Pointer, e *api.Ending) { e.Count = 2 }), print, nil, api.HintDamaged)
	checkLoad(t, turned(func(_ []api.Pointer, e *api.Ending) { e.Print.Frames = 2 }), print, nil, api.HintDamaged)
	checkLoad(t, turned(func(_ []api.Pointer, e *api.Ending) { e.Print.Bytes = 46 }), print, nil, api.HintDamaged)
	checkLoad(t, turned(func(l []api.Pointer, e *api.Ending) { l[0], l[1] = l[1], l[0] }), print, nil, api.HintDamaged)
	checkLoad(t, turned(func([]api.Pointer, *api.Ending) {})+"x", print, nil, api.HintDamaged)
	// the fingerprint that is asked for is just the one that the ending tells, and does not fit the pointers
	checkLoad(t, footFrame(end(0, 14, 1, 5)), api.Print{Bytes: 14, Frames: 1, Sum: 5}, nil, api.HintDamaged)
	checkLoad(t, footFrame(end(1, 14, 1, 5)), api.Print{Bytes: 14, Frames: 1, Sum: 5}, nil, api.HintDamaged)
}

// Nothing but the form and the fingerprint is looked at: whatever pointers say of records is told as it is.
func TestLoadOfAForgedFile(t *testing.T) {
	check := func(turn func(l []api.Pointer)) {
		t.Helper()
		l := three()
		turn(l)
		checkLoad(t, hints(threeEnd(), l...), threeEnd().Print, l, api.HintFine)
	}
	check(func(l []api.Pointer) { l[0].Key = strings.Repeat("\xa7", 64) })
	check(func(l []api.Pointer) { l[1].LSN = 1<<64 - 1 })
	check(func(l []api.Pointer) { l[1].Kind, l[2].Kind = api.Put, api.Delete })
	check(func(l []api.Pointer) { l[0].Len, l[1].At, l[1].Len = 1, 1, 26 }) // no frame has one byte
	check(func(l []api.Pointer) { l[0].Key, l[1].Key, l[2].Key = "x", "x", "x" })
	check(func(l []api.Pointer) { l[0].LSN, l[1].LSN, l[2].LSN = 1, 1, 1 })
	most := to(api.Put, 1<<64-1, strings.Repeat("k", 64), 0, 4194304)
	checkLoad(t, hints(end(1, 4194304, 1, 1<<32-1), most), api.Print{Bytes: 4194304, Frames: 1, Sum: 1<<32 - 1}, []api.Pointer{most}, api.HintFine)
	l := []api.Pointer{to(api.Delete, 1, "k", 0, 4194303), to(api.Delete, 1, "k", 4194303, 1)}
	checkLoad(t, hints(end(2, 4194304, 2, 0), l...), api.Print{Bytes: 4194304, Frames: 2}, l, api.HintFine)
}

// A pointer can begin at the most that it may tell; but an ending tells no more bytes than that, so that none fits.
func TestLoadOfPointersBeyondADisk(t *testing.T) {
	l := []api.Pointer{to(api.Put, 1, "k", 0, 4194304), to(api.Put, 2, "k", 4194304, 1)}
	for _, size := range []int{0, 1, 4194303, 4194304} {
		s := hints(end(2, size, 2, 0), l...)
		checkLoad(t, s, api.Print{Bytes: size, Frames: 2}, nil, api.HintDamaged)
		checkLoad(t, s, api.Print{Bytes: 4194305, Frames: 2}, nil, api.HintDamaged)
	}
}
