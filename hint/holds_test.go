package hint_test

import (
	"testing"

	"salvor/api"
	"salvor/hint"
	"salvor/segment"
)

// segments are clean ones: by hand, every short one, and many.
func segments() []string {
	l := []string{laid(records()...)}
	rows(segmentPieces()[:5], 3, func(s string) { l = append(l, s) })
	r := source()
	for i := range 300 {
		l = append(l, laid(anyRecords(r, i%20)...))
	}
	return l
}

// checkedAll tells whether Check says yes of all pointers.
func checkedAll(s string, pointers []api.Pointer) bool {
	for _, p := range pointers {
		if !hint.Check([]byte(s), p) {
			return false
		}
	}
	return true
}

func TestAHintFileIsFineForItsSegment(t *testing.T) {
	for _, s := range segments() {
		file, errno := hint.Of([]byte(s))
		if errno != api.OK {
			t.Fatalf("Of(%.80x): %d", s, errno)
		}
		print := segment.Print([]byte(s))
		pointers, verdict := hint.Load(file, print)
		if verdict != api.HintFine || len(pointers) != print.Frames || !checkedAll(s, pointers) {
			t.Fatalf("of %.80x: %s, %s", s, said(pointers...), verdicts[verdict])
		}
	}
}

// Each segment's file with each other one's fingerprint, and those that differ in one number alone.
func TestAHintFileIsStaleForAnotherSegment(t *testing.T) {
	l := segments()
	for i, s := range l {
		file, _ := hint.Of([]byte(s))
		own := segment.Print([]byte(s))
		others := []api.Print{{Bytes: own.Bytes + 1, Frames: own.Frames, Sum: own.Sum}, {Bytes: own.Bytes, Frames: own.Frames + 1, Sum: own.Sum}, {Bytes: own.Bytes, Frames: own.Frames, Sum: own.Sum + 1}}
		for k := range 40 {
			others = append(others, segment.Print([]byte(l[(i+k)%len(l)])), segment.Print([]byte(l[(i+k)%len(l)]+"x")))
		}
		for _, print := range others {
			if pointers, verdict := hint.Load(file, print); print != own && (len(pointers) != 0 || verdict != api.HintStale) {
				t.Fatalf("of %.80x with %v: %s, %s", s, print, said(pointers...), verdicts[verdict])
			}
		}
	}
}

// A segment in which one bit was turned has another fingerprint, and what was written for it ahead of that is stale.
func TestAHintFileIsStaleOnceItsSegmentIsDamaged(t *testing.T) {
	s := laid(records()[:7]...)
	file, _ := hint.Of([]byte(s))
	for i := range 8 * len(s) {
		b := []byte(s)
		b[i/8] ^= 1 << (i % 8)
		if pointers, verdict := hint.Load(file, segment.Print(b)); len(pointers) != 0 || verdict != api.HintStale {
			t.Fatalf("with bit %d turned: %s, %s", i, said(pointers...), verdicts[verdict])
		}
	}
}

// Everything in a hint file can be made by will: with the fingerprint of the segment, and a form that is right, it is fine; only Check tells.
func TestAForgedFileIsFineAndNotChecked(t *testing.T) {
	l := []api.Record{put(7, "k", "v"), gone(8, "k"), put(9, "key", "value")}
	s, print := laid(l...), printFor(l...)
	for i, turn := range []func(p []api.Pointer){
		func(p []api.Pointer) { p[0].Key = "j" },
		func(p []api.Pointer) { p[1].LSN = 1 },
		func(p []api.Pointer) { p[2].Kind = api.Delete },
		func(p []api.Pointer) { p[0].Len++; p[1].At++; p[1].Len-- },
		func(p []api.Pointer) { p[1].Len--; p[2].At--; p[2].Len++ },
		func(p []api.Pointer) { p[0].LSN, p[1].LSN = p[1].LSN, p[0].LSN },
		func(p []api.Pointer) {
			p[0], p[1] = p[1], p[0]
			p[0].At, p[1].At = 0, p[0].Len
		},
	} {
		pointers := pointersTo(l...)
		turn(pointers)
		file := hints(api.Ending{Count: 3, Print: print}, pointers...)
		checkLoad(t, file, print, pointers, api.HintFine)
		if checkedAll(s, pointers) {
			t.Errorf("forgery %d is checked", i)
		}
	}
	// of one frame it says that it were two, and of two that they were one: then the fingerprint tells another number of frames
	two := []api.Pointer{to(api.Put, 7, "k", 0, 7), to(api.Put, 7, "k", 7, 7)}
	one := printFor(l[0])
	checkLoad(t, hints(api.Ending{Count: 2, Print: one}, two...), one, nil, api.HintDamaged)
	both := printFor(l[0], l[1])
	checkLoad(t, hints(api.Ending{Count: 1, Print: both}, to(api.Put, 7, "k", 0, 26)), both, nil, api.HintDamaged)
}

// checkTheorem: if all pointers of a fine hint file are checked by its segment, that is clean, and the file is its own. It tells whether the file is fine, and whether it is checked.
func checkTheorem(t *testing.T, s, file string) (fine, checked bool) {
	t.Helper()
	pointers, verdict := hint.Load([]byte(file), segment.Print([]byte(s)))
	fine = verdict == api.HintFine
	if checked = fine && checkedAll(s, pointers); !checked {
		return fine, false
	}
	own, errno := hint.Of([]byte(s))
	if errno != api.OK || string(own) != file {
		t.Errorf("of the segment %.80x the file %.200x is checked, but its own is %.200x, %d", s, file, own, errno)
	}
	if records, all := framesByWords(s); len(pointers) != len(records) || !all {
		t.Errorf("of the segment %.80x %d records are known of %d", s, len(pointers), len(records))
	}
	return fine, true
}

// Every short segment, clean or not, with the pointers of every short clean one, and an ending forged for it.
func TestWhatIsFineAndCheckedIsTheSegmentsOwn(t *testing.T) {
	var pointers [][]api.Pointer
	rows(segmentPieces()[:5], 3, func(s string) {
		frames, _ := framesByWords(s)
		var l []api.Pointer
		for _, f := range frames {
			l = append(l, to(f.Frame.Record.Kind, f.Frame.Record.LSN, f.Frame.Record.Key, f.At, f.Len))
		}
		pointers = append(pointers, l)
	})
	fine, checked, clean := 0, 0, 0
	rows(segmentPieces(), 3, func(s string) {
		if cleanByWords(s) {
			clean++
		}
		print := printByWords(s)
		for _, l := range pointers {
			if len(l) != print.Frames {
				continue // damaged, whatever the ending says
			}
			isFine, isChecked := checkTheorem(t, s, hints(api.Ending{Count: len(l), Print: print}, l...))
			if isFine {
				fine++
			}
			if isChecked {
				checked++
			}
		}
	})
	if fine < 2000 || checked != clean || clean != 1+5+25+125 {
		t.Errorf("%d are fine, %d of them checked, of %d clean segments", fine, checked, clean)
	}
}

// Many, with pointers forged at will.
func TestWhatIsFineAndCheckedIsTheSegmentsOwnOfMany(t *testing.T) {
	r := source()
	fine, checked := 0, 0
	for range 6000 {
		l := anyRecords(r, r.Intn(5))
		s := spoilt(r, laid(l...))
		pointers, e := turnedAny(r, pointersTo(l...), api.Ending{Count: len(l), Print: printByWords(s)})
		isFine, isChecked := checkTheorem(t, s, spoilt(r, hints(e, pointers...)))
		if isFine {
			fine++
		}
		if isChecked {
			checked++
		}
	}
	if fine < 500 || checked < 300 || checked >= fine {
		t.Errorf("%d are fine, %d of them checked", fine, checked)
	}
}

// A segment of more bytes than may be has no hint file, and none that is forged is fine for it: no ending tells so many.
func TestNoFileIsFineForASegmentThatIsTooLong(t *testing.T) {
	l := full(t, 4194305)
	s := strung(l)
	print := api.Print{Bytes: 4194305, Frames: len(l), Sum: sumByWords(s)}
	if segment.Print([]byte(s)) != print {
		t.Fatalf("it has another fingerprint")
	}
	for _, size := range []int{4194304, 4194303} {
		e := api.Ending{Count: len(l), Print: api.Print{Bytes: size, Frames: len(l), Sum: print.Sum}}
		for _, short := range []int{0, 1, 2} {
			pointers := pointersTo(l...)
			pointers[len(pointers)-1].Len -= short
			file := ""
			for _, p := range pointers {
				file += hintFrame(p)
			}
			if got, verdict := hint.Load([]byte(file+footFrame(e)), print); len(got) != 0 || verdict == api.HintFine {
				t.Errorf("%d bytes, %d fewer: %s, %s", size, short, said(got...), verdicts[verdict])
			}
		}
	}
}
