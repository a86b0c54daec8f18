package plan_test

import (
	"bytes"
	"encoding/binary"
	"fmt"
	"hash/crc32"
	"math/rand"
	"slices"
	"strings"
	"testing"

	"salvor/api"
	"salvor/frame"
	"salvor/hint"
	"salvor/names"
	"salvor/plan"
	"salvor/segment"
)

func source() *rand.Rand { return rand.New(rand.NewSource(11)) }

func pick[T any](r *rand.Rand, l ...T) T { return l[r.Intn(len(l))] }

func put(lsn uint64, key, value string) api.Record {
	return api.Record{LSN: lsn, Kind: api.Put, Key: key, Value: value}
}

func gone(lsn uint64, key string) api.Record {
	return api.Record{LSN: lsn, Kind: api.Delete, Key: key}
}

// made once, since frames are written again and again
var (
	castagnoli = crc32.MakeTable(crc32.Castagnoli)
	escaper    = strings.NewReplacer("\xa7", "\xa6\x01", "\xa6", "\xa6\x00")
)

func sumByWords(s string) uint32 { return crc32.Checksum([]byte(s), castagnoli) }

// digits are the so many groups of seven bits of a number, the highest first.
func digits(n uint64, count int) string {
	b := make([]byte, count)
	for i := range b {
		b[i] = byte(n >> (7 * (count - 1 - i)) & 0x7f)
	}
	return string(b)
}

func varint(n uint64) string { return string(binary.AppendUvarint(nil, n)) }

// framed lays what a frame has around a body.
func framed(body string) string {
	escaped := escaper.Replace(body)
	inner := digits(uint64(len(escaped)), 3) + escaped
	return "\xa7" + inner + digits(uint64(sumByWords(inner)), 5)
}

// whole is the frame of a record that may be.
func whole(r api.Record) string {
	if r.Kind == api.Delete {
		return framed("\x02" + varint(r.LSN) + r.Key)
	}
	return framed("\x01" + varint(r.LSN) + varint(uint64(len(r.Key))) + r.Key + r.Value)
}

// laid is the frames of records, one behind the other.
func laid(l ...api.Record) string {
	s := ""
	for _, r := range l {
		s += whole(r)
	}
	return s
}

func hintFrame(p api.Pointer) string {
	return framed("\x03" + varint(p.LSN) + string([]byte{byte(p.Kind)}) + varint(uint64(p.At)) + varint(uint64(p.Len)) + p.Key)
}

func footFrame(e api.Ending) string {
	return framed("\x04" + varint(uint64(e.Count)) + varint(uint64(e.Print.Bytes)) + varint(uint64(e.Print.Frames)) + varint(uint64(e.Print.Sum)))
}

// pointersTo are those to records that lie one behind the other.
func pointersTo(l ...api.Record) []api.Pointer {
	var pointers []api.Pointer
	at := 0
	for _, r := range l {
		pointers = append(pointers, api.Pointer{LSN: r.LSN, Kind: r.Kind, At: at, Len: len(whole(r)), Key: r.Key})
		at += len(whole(r))
	}
	return pointers
}

// hintsOf are pointers, and an ending for a segment of so many frames and these bytes.
func hintsOf(segment string, frames int, l ...api.Pointer) string {
	s := ""
	for _, p := range l {
		s += hintFrame(p)
	}
	return s + footFrame(api.Ending{Count: frames, Print: api.Print{Bytes: len(segment), Frames: frames, Sum: sumByWords(segment)}})
}

// rightFor is the hint file of a segment of these records.
func rightFor(l ...api.Record) string { return hintsOf(laid(l...), len(l), pointersTo(l...)...) }

// the names that most tests need
const (
	seg1, seg2, seg3 = "seg-00000001.log", "seg-00000002.log", "seg-00000003.log"
	hint1, hint2     = "seg-00000001.hint", "seg-00000002.hint"
	bad1, bad2, bad3 = "bad-00000001.bin", "bad-00000002.bin", "bad-00000003.bin"
)

// files are made of names and texts by turns.
func files(l ...string) []api.File {
	var out []api.File
	for i := 0; i < len(l); i += 2 {
		out = append(out, api.File{Name: l[i], Data: []byte(l[i+1])})
	}
	return out
}

func remove(name string) api.Step { return api.Step{Op: api.StepRemove, Name: name} }

func write(name, data string) api.Step {
	return api.Step{Op: api.StepWrite, Name: name, Data: []byte(data)}
}

func sync(name string) api.Step { return api.Step{Op: api.StepSync, Name: name} }

func rename(name, to string) api.Step { return api.Step{Op: api.StepRename, Name: name, To: to} }

func truncate(name string, n int) api.Step {
	return api.Step{Op: api.StepTruncate, Name: name, N: n}
}

// ahead are the three steps by which a file is written ahead.
func ahead(name, data string) []api.Step {
	return []api.Step{write(name+".tmp", data), sync(name + ".tmp"), rename(name+".tmp", name)}
}

// told is a record, and where it stands.
type told struct {
	Place  api.Place
	Record api.Record
}

// viewed is what View tells of files.
func viewed(l []api.File) []told {
	var all []told
	for p, r := range plan.View(l...) {
		all = append(all, told{p, r})
	}
	return all
}

// framesByWords are what layer 4 takes as a frame, at whatever place.
func framesByWords(b []byte) []api.Located {
	var l []api.Located
	for at := range b {
		if b[at] != 0xa7 {
			continue
		}
		if f, count, errno := frame.Decode(b, at); errno == api.OK {
			l = append(l, api.Located{Frame: f, At: at, Len: count})
		}
	}
	return l
}

func extentsByWords(b []byte) []api.Extent {
	var l []api.Extent
	end := 0
	for _, f := range append(framesByWords(b), api.Located{At: len(b)}) {
		if f.At > end {
			l = append(l, api.Extent{Junk: true, At: end, Len: f.At - end})
		}
		if f.Len > 0 {
			l = append(l, api.Extent{At: f.At, Len: f.Len})
		}
		end = f.At + f.Len
	}
	return l
}

// numberByWords is the number of a name of the class, told by trying it.
func numberByWords(c api.Class, name string) (uint32, bool) {
	class, number := names.Parse(name)
	return number, class == c
}

func viewByWords(l []api.File) []told {
	var all []told
	left := slices.Clone(l)
	for {
		least := -1
		for i, f := range left {
			n, is := numberByWords(api.Segment, f.Name)
			if !is {
				continue
			}
			if least < 0 {
				least = i
			} else if m, _ := numberByWords(api.Segment, left[least].Name); n < m {
				least = i
			}
		}
		if least < 0 {
			return all
		}
		n, _ := numberByWords(api.Segment, left[least].Name)
		for _, f := range framesByWords(left[least].Data) {
			if f.Frame.Kind == api.Put || f.Frame.Kind == api.Delete {
				all = append(all, told{api.Place{Segment: n, At: f.At, Len: f.Len}, f.Frame.Record})
			}
		}
		left = slices.Delete(left, least, least+1)
	}
}

func sumOf(l []api.File) int {
	n := 0
	for _, f := range l {
		n += len(f.Data)
	}
	return n
}

func mayBeByWords(l []api.File) bool {
	for i, f := range l {
		for _, g := range l[:i] {
			if f.Name == g.Name {
				return false
			}
		}
		if len(f.Name) < 1 || len(f.Name) > 60 {
			return false
		}
	}
	return sumOf(l) <= 4194304
}

func named(name string) func(f api.File) bool {
	return func(f api.File) bool { return f.Name == name }
}

func nameByWords(name string) bool { return 1 <= len(name) && len(name) <= 60 }

// stepByWords is what a list is behind a step; false, if that cannot be done.
func stepByWords(l []api.File, s api.Step) ([]api.File, bool) {
	l = slices.Clone(l)
	at := slices.IndexFunc(l, named(s.Name))
	if !nameByWords(s.Name) || (at < 0) != (s.Op == api.StepWrite) {
		return nil, false
	}
	switch s.Op {
	case api.StepRemove:
		return slices.Delete(l, at, at+1), true
	case api.StepWrite:
		return append(l, api.File{Name: s.Name, Data: s.Data}), true
	case api.StepSync:
		return l, true
	case api.StepRename:
		if !nameByWords(s.To) {
			return nil, false
		}
		if s.To == s.Name {
			return l, true
		}
		other := slices.IndexFunc(l, named(s.To))
		l[at].Name = s.To
		if other >= 0 {
			l = slices.Delete(l, other, other+1)
		}
		return l, true
	case api.StepTruncate:
		if s.N < 0 || s.N > len(l[at].Data) {
			return nil, false
		}
		l[at].Data = l[at].Data[:s.N]
		return l, true
	}
	return nil, false
}

func applyByWords(l []api.File, steps ...api.Step) ([]api.File, api.Errno) {
	if !mayBeByWords(l) {
		return nil, api.ErrPlanArg
	}
	for _, s := range steps {
		next, done := stepByWords(l, s)
		if !done {
			return nil, api.ErrPlanArg
		}
		l = next
	}
	l = slices.Clone(l)
	slices.SortFunc(l, func(a, b api.File) int { return strings.Compare(a.Name, b.Name) })
	return l, api.OK
}

func peakByWords(l []api.File, steps ...api.Step) int {
	peak := sumOf(l)
	for _, s := range steps {
		if next, done := stepByWords(l, s); done {
			l = next
		}
		peak = max(peak, sumOf(l))
	}
	return peak
}

// ofClassByWords are the files of a class, by names (which are by numbers, too).
func ofClassByWords(c api.Class, l []api.File) []api.File {
	var some []api.File
	for _, f := range l {
		if class, _ := names.Parse(f.Name); class == c {
			some = append(some, f)
		}
	}
	slices.SortFunc(some, func(a, b api.File) int {
		_, n := names.Parse(a.Name)
		_, m := names.Parse(b.Name)
		if n != m {
			return int(int64(n) - int64(m))
		}
		return strings.Compare(a.Name, b.Name)
	})
	return some
}

// freshByWords asks for a name for a new quarantine file beside all that are there behind some steps.
func freshByWords(l []api.File, steps []api.Step) string {
	now, _ := applyByWords(l, steps...)
	var all []string
	for _, f := range now {
		all = append(all, f.Name)
	}
	number, _ := names.Fresh(api.Quarantine, all...)
	name, _ := names.Make(api.Quarantine, number)
	return name
}

// segmentByWords is what is done to one segment, behind the steps so far.
func segmentByWords(l []api.File, f api.File, steps []api.Step) ([]api.Step, api.Account) {
	a := api.Account{Name: f.Name, Class: api.Segment, Extents: extentsByWords(f.Data)}
	junk, clean, runs := "", "", 0
	for _, e := range a.Extents {
		part := string(f.Data[e.At : e.At+e.Len])
		if e.Junk {
			junk += part
			runs++
		} else {
			clean += part
		}
	}
	if runs > 0 {
		a.Bad = freshByWords(l, steps)
		steps = append(steps, ahead(a.Bad, junk)...)
		if runs == 1 && a.Extents[len(a.Extents)-1].Junk {
			steps = append(steps, truncate(f.Name, len(clean)))
		} else {
			steps = append(steps, ahead(f.Name, clean)...)
		}
	}
	name := strings.TrimSuffix(f.Name, "log") + "hint"
	right, errno := hint.Of([]byte(clean))
	at := slices.IndexFunc(l, named(name))
	switch {
	case at < 0 && errno != api.OK:
		a.Hint = api.HintNone
	case at < 0:
		a.Hint = api.HintMissing
		steps = append(steps, ahead(name, string(right))...)
	case errno == api.OK && bytes.Equal(l[at].Data, right):
		a.Hint = api.HintFine
	default:
		if _, a.Hint = hint.Load(l[at].Data, segment.Print([]byte(clean))); a.Hint == api.HintFine {
			a.Hint = api.HintForged
		}
		if errno == api.OK {
			steps = append(steps, ahead(name, string(right))...)
		} else {
			steps = append(steps, remove(name))
		}
	}
	return steps, a
}

func deepByWords(l []api.File, capacity int, trusted ...uint32) (api.Plan, api.Errno) {
	if capacity < 0 || capacity > 4194304 || !mayBeByWords(l) || sumOf(l) > capacity {
		return api.Plan{}, api.ErrPlanArg
	}
	var p api.Plan
	for _, f := range ofClassByWords(api.Temp, l) {
		p.Steps = append(p.Steps, remove(f.Name))
	}
	for _, f := range ofClassByWords(api.Segment, l) {
		a := api.Account{Name: f.Name, Class: api.Segment, Hint: api.HintFine}
		if _, number := names.Parse(f.Name); !slices.Contains(trusted, number) {
			p.Steps, a = segmentByWords(l, f, p.Steps)
			for _, e := range a.Extents {
				if e.Junk {
					p.Report.Junk += e.Len
				} else {
					p.Report.Frames++
				}
			}
			for _, x := range framesByWords(f.Data) {
				p.Report.Top = max(p.Report.Top, x.Frame.Record.LSN)
			}
		}
		p.Report.Files = append(p.Report.Files, a)
	}
	for _, f := range ofClassByWords(api.Hints, l) {
		if !slices.ContainsFunc(l, named(strings.TrimSuffix(f.Name, "hint")+"log")) {
			p.Steps = append(p.Steps, remove(f.Name))
			p.Report.Files = append(p.Report.Files, api.Account{Name: f.Name, Class: api.Hints, Hint: api.HintOrphan})
		}
	}
	p.Peak = peakByWords(l, p.Steps...)
	if p.Peak > capacity {
		return api.Plan{}, api.ErrPlanFull
	}
	return p, api.OK
}

// verdicts and ops are the words for them, for what a test says.
var (
	verdicts = []string{"none", "fine", "missing", "stale", "damaged", "forged", "orphan"}
	ops      = []string{"no op", "remove", "write", "sync", "rename", "truncate"}
)

// shortly is some bytes in few words: two unlike ones have unlike words, but for the same sums.
func shortly(b []byte) string {
	if len(b) <= 60 {
		return fmt.Sprintf("%q", b)
	}
	return fmt.Sprintf("%q.. (%d bytes, sum %08x)", b[:20], len(b), crc32.ChecksumIEEE(b))
}

func sayFiles(l []api.File) string {
	s := fmt.Sprintf("%d files:", len(l))
	for _, f := range l {
		s += fmt.Sprintf(" %q=%s", f.Name, shortly(f.Data))
	}
	return s
}

func saySteps(l []api.Step) string {
	s := fmt.Sprintf("%d steps:", len(l))
	for _, x := range l {
		op := fmt.Sprint(int(x.Op))
		if x.Op >= 0 && int(x.Op) < len(ops) {
			op = ops[x.Op]
		}
		s += fmt.Sprintf(" %s %q %q %d %s;", op, x.Name, x.To, x.N, shortly(x.Data))
	}
	return s
}

func sayReport(r api.Report) string {
	s := fmt.Sprintf("top %d, %d frames, %d bytes of junk;", r.Top, r.Frames, r.Junk)
	for _, a := range r.Files {
		s += fmt.Sprintf(" %q of class %d %v bad %q hint %s;", a.Name, a.Class, a.Extents, a.Bad, verdicts[a.Hint])
	}
	return s
}

func sayPlan(p api.Plan) string {
	return saySteps(p.Steps) + "\n  " + sayReport(p.Report) + fmt.Sprintf("\n  peak %d", p.Peak)
}

func checkView(t *testing.T, l []api.File, want ...told) {
	t.Helper()
	if got := viewed(l); !slices.Equal(got, want) {
		t.Errorf("View of %s tells\n  %v, want\n  %v", sayFiles(l), got, want)
	}
}

// checkApply holds what Apply tells; no files are wanted where it is refused.
func checkApply(t *testing.T, l []api.File, steps []api.Step, want []api.File, wantErrno api.Errno) {
	t.Helper()
	got, errno := plan.Apply(l, steps...)
	if sayFiles(got) != sayFiles(want) || errno != wantErrno {
		t.Errorf("Apply of %s, %s =\n  %s, %d, want\n  %s, %d", sayFiles(l), saySteps(steps), sayFiles(got), errno, sayFiles(want), wantErrno)
	}
}

func checkPeak(t *testing.T, l []api.File, steps []api.Step, want int) {
	t.Helper()
	if got := plan.Peak(l, steps...); got != want {
		t.Errorf("Peak of %s, %s = %d, want %d", sayFiles(l), saySteps(steps), got, want)
	}
}

func checkDeep(t *testing.T, l []api.File, capacity int, trusted []uint32, want api.Plan, wantErrno api.Errno) {
	t.Helper()
	got, errno := plan.Deep(l, capacity, trusted...)
	if sayPlan(got) != sayPlan(want) || errno != wantErrno {
		t.Errorf("Deep of %s, %d, %v =\n  %s, %d, want\n  %s, %d", sayFiles(l), capacity, trusted, sayPlan(got), errno, sayPlan(want), wantErrno)
	}
}

// What the tests take for frames are frames, and what they take for hint files are right: else they would test nothing.
func TestTheTestsHaveFrames(t *testing.T) {
	if whole(put(1, "k", "v")) != "\xa7\x00\x00\x05\x01\x01\x01kv\x0e\x7d\x39\x08\x4c" {
		t.Errorf("the small frame is %x", whole(put(1, "k", "v")))
	}
	l := []api.Record{put(0xa7, "\xa6", "\xa7"), gone(1<<64-1, "k"), put(3, strings.Repeat("k", 64), strings.Repeat("\xa7", 2048))}
	got := framesByWords([]byte(laid(l...)))
	if len(got) != 3 || got[0].Frame.Record != l[0] || got[1].Frame.Record != l[1] || got[2].Frame.Record != l[2] {
		t.Errorf("the frames are %v", got)
	}
	for n := range len(l) + 1 {
		if right, errno := hint.Of([]byte(laid(l[:n]...))); string(right) != rightFor(l[:n]...) || errno != api.OK {
			t.Errorf("of %d records the hint file is %x", n, right)
		}
	}
}
