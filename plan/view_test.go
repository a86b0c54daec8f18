package plan_test

import (
	"slices"
	"strings"
	"testing"

	"salvor/api"
	"salvor/plan"
)

// at is where a record stands, and the record.
func at(number uint32, place int, r api.Record) told {
	return told{api.Place{Segment: number, At: place, Len: len(whole(r))}, r}
}

func TestViewOfNoFiles(t *testing.T) {
	for _, l := range [][]api.File{nil, {}, files(seg1, laid(put(1, "k", "v")))[:0]} {
		all := plan.View(l...)
		if all == nil {
			t.Fatal("View of no files is nil")
		}
		for p, r := range all {
			t.Errorf("View of no files tells %v, %v", p, r)
		}
	}
}

func TestViewTellsRecordsWithTheirPlaces(t *testing.T) {
	a, b, c := put(7, "a", "x"), gone(3, "b"), put(1<<64-1, strings.Repeat("\xa7", 64), strings.Repeat("\xa6", 2048))
	checkView(t, files(seg1, laid(a)), at(1, 0, a))
	checkView(t, files(seg1, laid(b, a, c)), at(1, 0, b), at(1, len(whole(b)), a), at(1, len(laid(b, a)), c))
	checkView(t, files(seg1, laid(a, a)), at(1, 0, a), at(1, len(whole(a)), a))
	checkView(t, files(seg1, ""))
	checkView(t, files("seg-ffffffff.log", laid(a)), at(1<<32-1, 0, a))
}

// Records are found wherever they lie; frames of other kinds, and junk, are passed over.
func TestViewAmongOtherFramesAndJunk(t *testing.T) {
	a, b := put(7, "a", "x"), gone(3, "b")
	pointer := hintFrame(pointersTo(a)[0])
	foot := footFrame(api.Ending{Count: 1})
	for _, other := range []string{pointer, foot, "x", "\xa7", whole(a)[:5], whole(a)[1:], pointer + foot + "xyz", whole(b)[:len(whole(b))-1]} {
		n, m := len(other), len(other)+len(whole(a))
		checkView(t, files(seg1, other))
		checkView(t, files(seg1, other+laid(a)), at(1, n, a))
		checkView(t, files(seg1, laid(a)+other), at(1, 0, a))
		checkView(t, files(seg1, laid(a)+other+laid(b)), at(1, 0, a), at(1, m, b))
		checkView(t, files(seg1, other+laid(a)+other+laid(b)+other), at(1, n, a), at(1, n+m, b))
	}
}

// namesOfNoSegment are such that nobody looks into the file.
func namesOfNoSegment() []string {
	return []string{
		"", "x", hint1, bad1, "seg-00000001.log.tmp", ".tmp", "seg-00000000.log", "SEG-00000001.log", "seg-0000000A.log", "seg-1.log", "seg-000000001.log",
		"seg-00000001.log ", " seg-00000001.log", "seg-00000001", "seg-00000001.hint.tmp", strings.Repeat("n", 60), strings.Repeat("n", 61), strings.Repeat("n", 5000), "\xff\x00",
	}
}

func TestViewLooksIntoSegmentsAlone(t *testing.T) {
	a, b := put(7, "a", "x"), gone(3, "b")
	var all []api.File
	for _, name := range namesOfNoSegment() {
		checkView(t, files(name, laid(a)))
		checkView(t, files(name, laid(a), seg1, laid(b), name, laid(a)), at(1, 0, b))
		all = append(all, files(name, laid(a, b))...)
	}
	checkView(t, all)
}

func TestViewGoesByNumbers(t *testing.T) {
	a, b, c, d := put(1, "a", ""), put(2, "b", ""), put(3, "c", ""), put(4, "d", "")
	want := []told{at(1, 0, a), at(1, len(whole(a)), d), at(2, 0, b), at(0xa, 0, c), at(0xa0000000, 0, d)}
	l := files(seg1, laid(a, d), seg2, laid(b), "seg-0000000a.log", laid(c), "seg-a0000000.log", laid(d))
	for _, order := range [][4]int{{0, 1, 2, 3}, {3, 2, 1, 0}, {2, 0, 3, 1}, {1, 3, 0, 2}} {
		checkView(t, []api.File{l[order[0]], l[order[1]], l[order[2]], l[order[3]]}, want...)
	}
}

// Of two files with one name all that the earlier one has comes first, wherever it stands there.
func TestViewOfFilesWithOneName(t *testing.T) {
	a, b, c := put(1, "a", ""), put(2, "b", ""), put(3, "c", "")
	n := len(whole(a))
	checkView(t, files(seg1, "xxxx"+laid(a, b), seg1, laid(c)), at(1, 4, a), at(1, 4+n, b), at(1, 0, c))
	checkView(t, files(seg1, laid(c), seg1, "xxxx"+laid(a, b)), at(1, 0, c), at(1, 4, a), at(1, 4+n, b))
	checkView(t, files(seg1, laid(a), seg1, laid(a), seg1, laid(a)), at(1, 0, a), at(1, 0, a), at(1, 0, a))
	checkView(t, files(seg2, laid(b), seg1, laid(c), seg2, laid(a), seg1, laid(b)), at(1, 0, c), at(1, 0, b), at(2, 0, b), at(2, 0, a))
	// more than a sort would leave in order by chance
	var l []api.File
	var want []told
	for i := range 50 {
		r := put(uint64(i+1), "k", "")
		l = append(l, files(seg1, laid(r), seg2, "x")...)
		want = append(want, at(1, 0, r))
	}
	checkView(t, l, want...)
}

func viewFiles() ([]api.File, []told) {
	a, b, c := put(1, "a", ""), put(2, "b", ""), gone(3, "c")
	n := len(whole(a))
	return files(seg2, "x"+laid(c)+"x"+laid(a), "other", laid(a), seg1, laid(a, b)), []told{at(1, 0, a), at(1, n, b), at(2, 1, c), at(2, 2+len(whole(c)), a)}
}

func TestViewMayBeLeftEarly(t *testing.T) {
	l, want := viewFiles()
	all := plan.View(l...)
	for count := 1; count <= len(want); count++ {
		var got []told
		for p, r := range all {
			if got = append(got, told{p, r}); len(got) == count {
				break
			}
		}
		if !slices.Equal(got, want[:count]) {
			t.Errorf("left behind %d: %v", count, got)
		}
	}
	checkView(t, l, want...)
}

func TestViewMayBeRangedOverAgain(t *testing.T) {
	l, want := viewFiles()
	all := plan.View(l...)
	for range 3 {
		var outer, inner []told
		for p, r := range all {
			outer = append(outer, told{p, r})
			for p, r := range all {
				inner = append(inner, told{p, r})
				if len(inner)%3 == 0 {
					break
				}
			}
		}
		if !slices.Equal(outer, want) || !slices.Equal(inner, slices.Concat(want[:3], want[:3], want[:3], want[:3])) {
			t.Fatalf("a range tells %v, those within it %v", outer, inner)
		}
	}
}

// It looks at the files when it is ranged over.
func TestViewLooksWhenItIsRangedOver(t *testing.T) {
	a, b := put(1, "a", ""), put(2, "b", "")
	l := files(seg1, laid(a))
	all := plan.View(l...)
	copy(l[0].Data, laid(b))
	for range 2 {
		var got []told
		for p, r := range all {
			got = append(got, told{p, r})
		}
		if !slices.Equal(got, []told{at(1, 0, b)}) {
			t.Errorf("View tells %v", got)
		}
	}
}

// Whoever writes into the files within a range does it at his own risk, but nothing panics.
func TestViewOfFilesThatAreWrittenInto(t *testing.T) {
	l, _ := viewFiles()
	for range plan.View(l...) {
		for i := range l {
			turnAll(l[i].Data)
			l[i] = api.File{}
		}
	}
	l, _ = viewFiles()
	for range plan.View(l...) {
		for i := range l {
			turnAll(l[i].Data)
		}
	}
}
