package hint_test

import (
	"math/rand"
	"slices"
	"testing"

	"salvor/api"
)

// tally counts what was answered, so that a test can tell whether it has seen everything.
type tally struct {
	clean, dirty, yes, no int
	verdicts              [7]int
}

func (a *tally) of(t *testing.T, s string) {
	t.Helper()
	want, errno := ofByWords(s)
	checkOf(t, s, want, errno)
	if errno == api.OK {
		a.clean++
	} else {
		a.dirty++
	}
}

func (a *tally) load(t *testing.T, s string, print api.Print) {
	t.Helper()
	want, verdict := loadByWords(s, print)
	checkLoad(t, s, print, want, verdict)
	a.verdicts[verdict]++
}

func (a *tally) check(t *testing.T, s string, p api.Pointer) {
	t.Helper()
	want := checkByWords(s, p)
	checkCheck(t, s, p, want)
	if want {
		a.yes++
	} else {
		a.no++
	}
}

// rows hands over every row of at most so many of some pieces, laid one behind the other.
func rows(pieces []string, most int, call func(s string)) {
	var lay func(s string, left int)
	lay = func(s string, left int) {
		call(s)
		if left > 0 {
			for _, piece := range pieces {
				lay(s+piece, left-1)
			}
		}
	}
	lay("", most)
}

// segmentPieces are what segments are made of here.
func segmentPieces() []string {
	return []string{
		whole(put(1, "a", "")), whole(put(2, "a", "v")), whole(put(1, "a", "w")), whole(gone(1, "a")), whole(gone(2, "\xa7")),
		hintFrame(to(api.Put, 1, "a", 0, 13)), footFrame(api.Ending{}), "x", "\xa7",
	}
}

func TestOfEveryShortSegment(t *testing.T) {
	var seen tally
	rows(segmentPieces(), 4, func(s string) { seen.of(t, s) })
	if seen.clean != 1+5+25+125+625 || seen.dirty < 6000 {
		t.Errorf("%v", seen)
	}
}

// hintPieces are what hint files are made of here: of two lengths, at the places that they make.
func hintPieces() []string {
	pieces := []string{whole(gone(1, "a")), "x"}
	for _, at := range []int{0, 12, 13, 24, 25} {
		pieces = append(pieces, hintFrame(to(api.Delete, 1, "a", at, 12)))
	}
	pieces = append(pieces, hintFrame(to(api.Put, 1, "a", 0, 13)), hintFrame(to(api.Put, 2, "b", 12, 13)))
	for count := range 3 {
		for frames := range 3 {
			for _, size := range []int{0, 12, 13, 24, 25} {
				pieces = append(pieces, footFrame(end(count, size, frames, 5)))
			}
		}
	}
	return pieces
}

func TestLoadOfEveryShortFile(t *testing.T) {
	prints := []api.Print{{Sum: 5}, {Bytes: 12, Frames: 1, Sum: 5}, {Bytes: 24, Frames: 2, Sum: 5}, {Bytes: 24, Frames: 2, Sum: 4}}
	var seen tally
	rows(hintPieces(), 3, func(s string) {
		for _, print := range prints {
			seen.load(t, s, print)
		}
	})
	// of none, of one (two lengths), of two (12 and 12, 12 and 13, 13 and 12): six forms, three of which have a print of these
	if want := [7]int{api.HintFine: 3, api.HintStale: 6*4 - 3}; seen.verdicts[api.HintFine] != want[api.HintFine] || seen.verdicts[api.HintStale] != want[api.HintStale] {
		t.Errorf("%v", seen)
	}
}

func TestCheckAtEveryPlace(t *testing.T) {
	var seen tally
	rows(segmentPieces(), 2, func(s string) {
		for at := -1; at <= len(s)+1; at++ {
			for size := 11; size <= 15; size++ {
				for _, kind := range []api.Kind{0, api.Put, api.Delete} {
					for lsn := range uint64(3) {
						seen.check(t, s, to(kind, lsn, "a", at, size))
						seen.check(t, s, to(kind, lsn, "\xa7", at, size))
					}
				}
				seen.check(t, s, api.Pointer{At: at, Len: size})
			}
		}
	})
	if seen.yes != 5+90 || seen.no < 10000 { // of each record in each row, once
		t.Errorf("%v", seen)
	}
}

func anyText(r *rand.Rand, count int) string {
	const telling = "\x00\x01\x02\x03\x04\x05\x7f\x80\xa5\xa6\xa7\xa8"
	b := make([]byte, count)
	for i := range b {
		b[i] = pick(r, telling[r.Intn(len(telling))], byte(r.Intn(256)))
	}
	return string(b)
}

func anyRecord(r *rand.Rand) api.Record {
	lsn := pick(r, 1, 0xa6, 0xa7, 1<<64-1, 1+uint64(r.Intn(1000)))
	key := anyText(r, 1+r.Intn(6))
	if r.Intn(3) == 0 {
		return gone(lsn, key)
	}
	return put(lsn, key, anyText(r, pick(r, 0, 1, r.Intn(40))))
}

func anyRecords(r *rand.Rand, count int) []api.Record {
	var l []api.Record
	for range count {
		l = append(l, anyRecord(r))
	}
	return l
}

// spoilt is a text to which something has happened, half of the time.
func spoilt(r *rand.Rand, s string) string {
	if s == "" || r.Intn(2) == 0 {
		return s
	}
	at := r.Intn(len(s))
	switch r.Intn(6) {
	case 0:
		return s[:at]
	case 1:
		return s[at:]
	case 2:
		return s[:at] + anyText(r, 1+r.Intn(3)) + s[at:]
	case 3:
		return s[:at] + string([]byte{s[at] ^ 1<<r.Intn(8)}) + s[at+1:]
	case 4:
		return s + pick(r, whole(anyRecord(r)), footFrame(api.Ending{}), hintFrame(to(api.Put, 1, "k", 0, 14)))
	}
	return pick(r, whole(anyRecord(r)), footFrame(api.Ending{}), hintFrame(to(api.Put, 1, "k", 0, 14))) + s
}

// forged is a pointer of which something else is said, most of the time.
func forged(r *rand.Rand, p api.Pointer) api.Pointer {
	switch r.Intn(8) {
	case 0:
		p.LSN += uint64(r.Intn(3))
	case 1:
		p.Kind = 3 - p.Kind
	case 2:
		p.Key = anyText(r, 1+r.Intn(3))
	case 3:
		p.At += r.Intn(3) - 1
	case 4:
		p.Len += r.Intn(3) - 1
	case 5:
		p.At += pick(r, -1, 1) * p.Len
	}
	return p
}

// turnedAny are pointers and an ending in which some numbers are others, most of the time so that they go together.
func turnedAny(r *rand.Rand, l []api.Pointer, e api.Ending) ([]api.Pointer, api.Ending) {
	l = slices.Clone(l)
	switch r.Intn(8) {
	case 0:
		e.Count += r.Intn(3)
	case 1:
		e.Print.Frames += r.Intn(3)
	case 2:
		e.Print.Bytes += r.Intn(3)
	case 3:
		e.Print.Sum ^= 1 << r.Intn(32)
	case 4:
		if len(l) > 1 {
			i := r.Intn(len(l) - 1)
			l[i], l[i+1] = l[i+1], l[i]
		}
	case 5:
		if len(l) > 0 {
			i := r.Intn(len(l))
			l[i] = forged(r, l[i])
			l[i].At, l[i].Len, l[i].LSN = max(0, l[i].At), max(1, l[i].Len), max(1, l[i].LSN)
		}
	case 6:
		if len(l) > 0 {
			l[len(l)-1].Len++
			e.Print.Bytes++
		}
	}
	return l, e
}

func TestManySegmentsAndFiles(t *testing.T) {
	r := source()
	var seen tally
	for range 6000 {
		l := anyRecords(r, r.Intn(6))
		right := printFor(l...)
		s := spoilt(r, laid(l...))
		seen.of(t, s)
		pointers, e := turnedAny(r, pointersTo(l...), api.Ending{Count: len(l), Print: right})
		file := spoilt(r, hints(e, pointers...))
		for _, print := range []api.Print{right, e.Print, printByWords(s)} {
			seen.load(t, file, print)
		}
		for _, p := range pointers {
			seen.check(t, s, p)
			seen.check(t, s, forged(r, p))
		}
		seen.load(t, s, right)
		seen.of(t, file)
	}
	v := seen.verdicts
	if seen.clean < 2000 || seen.dirty < 2000 || seen.yes < 2000 || seen.no < 2000 || v[api.HintFine] < 2000 || v[api.HintStale] < 1000 || v[api.HintDamaged] < 2000 {
		t.Errorf("not everything was seen: %v", seen)
	}
}
