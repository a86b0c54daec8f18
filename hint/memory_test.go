package hint_test

import (
	"bytes"
	"runtime"
	"slices"
	"sync"
	"testing"

	"salvor/api"
	"salvor/hint"
)

// turnAll writes into a list, and into its spare room.
func turnAll(b []byte) {
	b = b[:cap(b)]
	for i := range b {
		b[i] ^= 0xff
	}
}

// scene is a segment, bytes that are a hint file or not, and a fingerprint.
type scene struct {
	segment, data string
	print         api.Print
}

// scenes are such that each call gives each of its answers.
func scenes() []scene {
	l := records()
	s, fine, print := laid(l...), rightFor(l...), printFor(l...)
	all := []scene{
		{s, fine, print}, {s, fine, api.Print{}}, {s, fine + "x", print}, {s + "x", fine, print}, {"", rightFor(), api.Print{}}, {"", "", api.Print{}},
		{fine, s, print}, {"x", "x", print}, {laid(l[:3]...), rightFor(l[:3]...), printFor(l[:3]...)},
	}
	r := source()
	for range 100 {
		l := anyRecords(r, r.Intn(6))
		all = append(all, scene{spoilt(r, laid(l...)), spoilt(r, rightFor(l...)), printFor(l...)})
	}
	return all
}

// answers are what the calls tell of a scene.
type answers struct {
	file     []byte
	errno    api.Errno
	pointers []api.Pointer
	verdict  api.Verdict
	checks   string
}

func ask(segment, data []byte, print api.Print) answers {
	var a answers
	a.file, a.errno = hint.Of(segment)
	a.pointers, a.verdict = hint.Load(data, print)
	for _, p := range append(pointersTo(records()...), a.pointers...) {
		a.checks += map[bool]string{true: "y", false: "n"}[hint.Check(segment, p)]
	}
	return a
}

func askByWords(s scene) answers {
	file, errno := ofByWords(s.segment)
	pointers, verdict := loadByWords(s.data, s.print)
	a := answers{file: []byte(file), errno: errno, pointers: pointers, verdict: verdict}
	for _, p := range append(pointersTo(records()...), pointers...) {
		a.checks += map[bool]string{true: "y", false: "n"}[checkByWords(s.segment, p)]
	}
	return a
}

func (a answers) equal(b answers) bool {
	return bytes.Equal(a.file, b.file) && a.errno == b.errno && slices.Equal(a.pointers, b.pointers) && a.verdict == b.verdict && a.checks == b.checks
}

// spare is the lists of the answers with their spare room, in new memory.
func (a answers) spare() answers {
	a.file, a.pointers = bytes.Clone(a.file[:cap(a.file)]), slices.Clone(a.pointers[:cap(a.pointers)])
	return a
}

// spoil writes into the lists of the answers, and into their spare room.
func (a answers) spoil() {
	turnAll(a.file)
	room := a.pointers[:cap(a.pointers)]
	for i := range room {
		room[i] = api.Pointer{LSN: 77, Kind: api.Foot, At: -1, Len: -1, Key: "spoilt"}
	}
}

// room is a text with others ahead and behind, of which what lies between is handed in: what is behind it is its spare room.
func room(s string) (whole, part []byte) {
	ahead, behind := laid(gone(1, "ahead")), rightFor(put(1, "behind", ""))+"behind"
	whole = []byte(ahead + s + behind)
	return whole, whole[len(ahead) : len(ahead)+len(s)]
}

func TestNothingHandedInIsChanged(t *testing.T) {
	for _, s := range scenes() {
		wholeSegment, segment := room(s.segment)
		wholeData, data := room(s.data)
		beforeSegment, beforeData := bytes.Clone(wholeSegment), bytes.Clone(wholeData)
		got := ask(segment, data, s.print)
		if !got.equal(askByWords(s)) {
			t.Fatalf("of %.80x, %.80x: %v", s.segment, s.data, got)
		}
		if !bytes.Equal(wholeSegment, beforeSegment) || !bytes.Equal(wholeData, beforeData) {
			t.Fatalf("of %.80x, %.80x came %.80x, %.80x", beforeSegment, beforeData, wholeSegment, wholeData)
		}
		got.spoil()
		if !bytes.Equal(wholeSegment, beforeSegment) || !bytes.Equal(wholeData, beforeData) {
			t.Fatalf("an answer shares memory with %.80x or %.80x", beforeSegment, beforeData)
		}
	}
}

// What was told stays as it is, whatever becomes of the bytes that it came of; and the next call sees what is there then.
func TestNothingHandedInIsKept(t *testing.T) {
	for _, s := range scenes() {
		wholeSegment, segment := room(s.segment)
		wholeData, data := room(s.data)
		want := askByWords(s)
		first := ask(segment, data, s.print)
		turnAll(wholeSegment)
		turnAll(wholeData)
		if !first.equal(want) {
			t.Fatalf("what was told of %.80x, %.80x has changed with them", s.segment, s.data)
		}
		changed := scene{string(segment), string(data), s.print}
		if got := ask(segment, data, s.print); !got.equal(askByWords(changed)) {
			t.Fatalf("of %.80x, %.80x, which were others: %v", segment, data, got)
		}
		turnAll(wholeSegment)
		turnAll(wholeData)
		if got := ask(segment, data, s.print); !got.equal(want) {
			t.Fatalf("of %.80x, %.80x, changed back: %v", segment, data, got)
		}
	}
}

func TestTwoAnswersShareNothing(t *testing.T) {
	for _, s := range scenes() {
		segment, data := []byte(s.segment), []byte(s.data)
		one, other := ask(segment, data, s.print), ask(segment, data, s.print)
		rest := other.spare()
		one.spoil()
		if !other.spare().equal(rest) {
			t.Fatalf("two answers of %.80x, %.80x share memory", s.segment, s.data)
		}
		if got := ask(segment, data, s.print); !got.equal(askByWords(s)) {
			t.Fatalf("of %.80x, %.80x, once an answer was written into: %v", s.segment, s.data, got)
		}
	}
}

// A file that Of told, laid behind by its caller, harms no other one.
func TestAnswersMayBeLaidBehind(t *testing.T) {
	l := records()
	b := []byte(laid(l...))
	first, _ := hint.Of(b)
	second, _ := hint.Of(b)
	longer := append(first, "more"...)
	pointers, _ := hint.Load(second, printFor(l...))
	more := append(pointers, api.Pointer{Key: "more"})
	again, _ := hint.Load(second, printFor(l...))
	if string(longer[:len(first)]) != rightFor(l...) || string(second) != rightFor(l...) {
		t.Errorf("the files are %.200x, %.200x", longer, second)
	}
	if !slices.Equal(more[:len(pointers)], pointersTo(l...)) || !slices.Equal(again, pointersTo(l...)) {
		t.Errorf("the pointers are %s, %s", said(more...), said(again...))
	}
}

// Nothing is kept from call to call: many can ask at once, of the same bytes.
func TestAskedAtOnce(t *testing.T) {
	all := scenes()
	var want []answers
	for _, s := range all {
		want = append(want, askByWords(s))
	}
	var group sync.WaitGroup
	var wrong [8]int
	segment, data := []byte(all[0].segment), []byte(all[0].data)
	for i := range wrong {
		group.Go(func() {
			for k, s := range all {
				if !ask([]byte(s.segment), []byte(s.data), s.print).equal(want[k]) || !ask(segment, data, all[0].print).equal(want[0]) {
					wrong[i]++
				}
			}
		})
	}
	group.Wait()
	if wrong != [8]int{} {
		t.Errorf("wrong answers of each goroutine: %v", wrong)
	}
}

// No call leaves a goroutine behind.
func TestNoGoroutineIsLeft(t *testing.T) {
	before := runtime.NumGoroutine()
	for _, s := range scenes() {
		ask([]byte(s.segment), []byte(s.data), s.print)
	}
	if after := runtime.NumGoroutine(); after > before {
		t.Errorf("%d goroutines, %d before", after, before)
	}
}
