package plan_test

import (
	"fmt"
	"math/rand"
	"slices"
	"strings"
	"testing"

	"salvor/api"
	"salvor/plan"
)

func anyText(r *rand.Rand, count int) string {
	const telling = "\x00\x01\x02\x03\x04\x05\x7f\x80\xa5\xa6\xa7\xa8"
	b := make([]byte, count)
	for i := range b {
		b[i] = pick(r, telling[r.Intn(len(telling))], byte(r.Intn(256)))
	}
	return string(b)
}

func anyRecord(r *rand.Rand) api.Record {
	lsn := pick(r, 1, 0xa6, 0xa7, 1<<64-1, 1+uint64(r.Intn(9)), 1+uint64(r.Intn(9)))
	key := pick(r, "a", "b", "c", anyText(r, 1+r.Intn(4)))
	if r.Intn(3) == 0 {
		return gone(lsn, key)
	}
	return put(lsn, key, anyText(r, pick(r, 0, 1, r.Intn(30))))
}

func anyRecords(r *rand.Rand, count int) []api.Record {
	var l []api.Record
	for range count {
		l = append(l, anyRecord(r))
	}
	return l
}

// spoilt is a text to which something has happened.
func spoilt(r *rand.Rand, s string) string {
	other := pick(r, whole(anyRecord(r)), foot, pointer, "x")
	if s == "" {
		return other
	}
	at := r.Intn(len(s))
	switch r.Intn(6) {
	case 0:
		return s[:at]
	case 1:
		return s[at:]
	case 2:
		return s[:at] + anyText(r, 1+r.Intn(3)) + s[at:]
	case 3:
		return s[:at] + string([]byte{s[at] ^ 1<<r.Intn(8)}) + s[at+1:]
	case 4:
		return s + other
	}
	return other + s
}

func perhapsSpoilt(r *rand.Rand, s string) string {
	for r.Intn(2) == 0 {
		s = spoilt(r, s)
	}
	return s
}

// forged is a hint file for these records that lies in one thing.
func forged(r *rand.Rand, l []api.Record) string {
	p := pointersTo(l...)
	if len(p) > 0 {
		i := r.Intn(len(p))
		switch r.Intn(3) {
		case 0:
			p[i].LSN = p[i].LSN/2 + 1
		case 1:
			p[i].Key += "!"
		case 2:
			p[i].Kind = 3 - p[i].Kind
		}
	}
	return hintsOf(laid(l...), len(l), p...)
}

// anyDirectory is files as they may be, of all classes, to which something may have happened.
func anyDirectory(r *rand.Rand) []api.File {
	var l []api.File
	for _, n := range []int{1, 2, 3, 0xa, 0xffffffff} {
		if r.Intn(2) == 0 {
			continue
		}
		records := anyRecords(r, r.Intn(4))
		seg, hint := fmt.Sprintf("seg-%08x.log", n), fmt.Sprintf("seg-%08x.hint", n)
		switch r.Intn(6) {
		case 0:
			l = append(l, files(hint, rightFor(records...))...)
		case 1:
			l = append(l, files(seg, laid(records...), hint, forged(r, records))...)
		case 2:
			l = append(l, files(seg, perhapsSpoilt(r, laid(records...)))...)
		default:
			l = append(l, files(seg, perhapsSpoilt(r, laid(records...)), hint, perhapsSpoilt(r, rightFor(records...)))...)
		}
	}
	for _, name := range []string{bad1, bad2, bad3, "x.tmp", "seg-00000001.log.tmp", "seg-00000002.hint.tmp", bad1 + ".tmp", "other", "seg-00000000.log", ".tmp"} {
		if r.Intn(4) == 0 {
			l = append(l, files(name, pick(r, "", "x", whole(anyRecord(r)), anyText(r, r.Intn(50))))...)
		}
	}
	r.Shuffle(len(l), func(i, k int) { l[i], l[k] = l[k], l[i] })
	return l
}

func anyTrusted(r *rand.Rand) []uint32 {
	var l []uint32
	for r.Intn(2) == 0 {
		l = append(l, pick[uint32](r, 0, 1, 1, 2, 3, 4, 0xa, 0xffffffff))
	}
	return l
}

// tally counts what was answered, so that a test can tell whether it has seen everything.
type tally struct {
	fine, arg, full int
	verdicts        [7]int
	ops             [6]int
}

func (a *tally) deep(t *testing.T, l []api.File, capacity int, trusted ...uint32) api.Plan {
	t.Helper()
	want, errno := deepByWords(l, capacity, trusted...)
	checkDeep(t, l, capacity, trusted, want, errno)
	switch errno {
	case api.OK:
		a.fine++
	case api.ErrPlanArg:
		a.arg++
	case api.ErrPlanFull:
		a.full++
	}
	for _, x := range want.Report.Files {
		a.verdicts[x.Hint]++
	}
	for _, s := range want.Steps {
		a.ops[s.Op]++
	}
	return want
}

func TestDeepOfManyDirectories(t *testing.T) {
	r := source()
	var seen tally
	for range 4000 {
		l := anyDirectory(r)
		trusted := anyTrusted(r)
		p := seen.deep(t, l, room)
		seen.deep(t, l, room, trusted...)
		for _, capacity := range []int{sumOf(l), sumOf(l) - 1, p.Peak, p.Peak - 1, p.Peak - r.Intn(40), sumOf(l) + r.Intn(200)} {
			seen.deep(t, l, capacity, trusted...)
		}
		want, errno := applyByWords(l, p.Steps...)
		checkApply(t, l, p.Steps, want, errno)
		checkPeak(t, l, p.Steps, p.Peak)
		checkView(t, l, viewByWords(l)...)
		if t.Failed() {
			return
		}
	}
	if seen.fine < 5000 || seen.arg < 1000 || seen.full < 1000 || slices.Min(seen.verdicts[:]) < 500 || slices.Min(seen.ops[1:]) < 500 {
		t.Errorf("not everything was seen: %v", seen)
	}
}

// segmentPieces are what segments are made of here.
func segmentPieces() []string {
	return []string{a, b, whole(put(7, "a", "y")), pointer, foot, "x", "\xa7", a[:5]}
}

// Every segment of up to four pieces, without a hint file and beside one that is right for its frames, or for the first piece.
func TestDeepOfEveryShortSegment(t *testing.T) {
	var seen tally
	var lay func(s string, left int)
	lay = func(s string, left int) {
		seen.deep(t, files(seg1, s), room)
		seen.deep(t, files(seg1, s, hint1, rightFor(recA), bad1, "old"), room)
		seen.deep(t, files(seg1, s, hint1, rightFor(recA, recB)), room)
		if left == 0 || t.Failed() {
			return
		}
		for _, piece := range segmentPieces() {
			lay(s+piece, left-1)
		}
	}
	lay("", 4)
	if seen.fine < 14000 || seen.verdicts[api.HintFine] < 20 || seen.verdicts[api.HintNone] < 3000 || seen.verdicts[api.HintMissing] < 1000 || seen.verdicts[api.HintStale] < 5000 {
		t.Errorf("not everything was seen: %v", seen)
	}
}

// anyStep is a step of any kind, most of which can be done to files of few names.
func anyStep(r *rand.Rand) api.Step {
	name := func() string { return pick(r, "a", "b", "c", "d", "a", "b", "c", "d", "e", "f", "", name60, name61) }
	return api.Step{
		Op:   pick[api.Op](r, 1, 2, 3, 4, 5, 1, 2, 4, 5, 2, 4, 4, 0, 6),
		Name: name(), To: name(), N: r.Intn(8) - 1, Data: []byte(strings.Repeat("d", r.Intn(9))),
	}
}

func TestManySteps(t *testing.T) {
	r := source()
	refusals, done := 0, 0
	for range 20000 {
		var l []api.File
		for range r.Intn(7) {
			l = append(l, files(pick(r, "a", "b", "c", "d", name60), strings.Repeat("x", r.Intn(9)))...)
		}
		if r.Intn(50) == 0 {
			l = append(l, files(pick(r, "", name61), "yy")...)
		}
		var steps, good []api.Step
		now := l
		for range r.Intn(15) {
			s := anyStep(r)
			steps = append(steps, s)
			if next, ok := stepByWords(now, s); ok {
				now, good = next, append(good, s)
			}
		}
		for _, some := range [][]api.Step{steps, good} {
			want, errno := applyByWords(l, some...)
			checkApply(t, l, some, want, errno)
			checkPeak(t, l, some, peakByWords(l, some...))
			if errno == api.OK {
				done++
			} else {
				refusals++
			}
		}
		if t.Failed() {
			return
		}
	}
	if refusals < 5000 || done < 5000 {
		t.Errorf("not everything was seen: %d, %d", refusals, done)
	}
}

// Every row of up to three steps, of files two of which have one name: as few names as make a difference.
func TestEveryShortRowOfSteps(t *testing.T) {
	var all []api.Step
	for _, name := range []string{"a", "b", "c"} {
		all = append(all, remove(name), write(name, "wwww"), truncate(name, 1))
		for _, to := range []string{"a", "b", "c"} {
			all = append(all, rename(name, to))
		}
	}
	probe := write("probe", strings.Repeat("p", 1000))
	for _, l := range [][]api.File{files("a", "1", "b", "22", "a", "4444", "b", "88888888"), files("b", "22", "a", "1"), files("a", "1", "a", "22", "a", "4444"), nil} {
		var lay func(steps []api.Step, left int)
		lay = func(steps []api.Step, left int) {
			want, errno := applyByWords(l, steps...)
			checkApply(t, l, steps, want, errno)
			checkPeak(t, l, steps, peakByWords(l, steps...))
			full := append(slices.Clone(steps), probe)
			checkPeak(t, l, full, peakByWords(l, full...))
			if left == 0 || t.Failed() {
				return
			}
			for _, s := range all {
				lay(append(slices.Clone(steps), s), left-1)
			}
		}
		lay(nil, 3)
	}
}

func TestViewOfManyFiles(t *testing.T) {
	r := source()
	records := 0
	for range 3000 {
		var l []api.File
		for range r.Intn(6) {
			l = append(l, anyDirectory(r)...) // names stand twice
		}
		l = l[:min(len(l), 20)]
		want := viewByWords(l)
		records += len(want)
		checkView(t, l, want...)
		left := 0
		for range plan.View(l...) {
			if left++; left > len(want)/2 {
				break
			}
		}
		if left != min(len(want), len(want)/2+1) {
			t.Errorf("left behind %d of %d", left, len(want))
		}
		if t.Failed() {
			return
		}
	}
	if records < 10000 {
		t.Errorf("only %d records", records)
	}
}
