package merge_test

import (
	"bytes"
	"encoding/binary"
	"fmt"
	"hash/crc32"
	"math/rand"
	"slices"
	"strings"
	"testing"

	"salvor/api"
	"salvor/frame"
	"salvor/hint"
	"salvor/mend"
	"salvor/merge"
	"salvor/names"
	"salvor/plan"
	"salvor/vdisk"
)

func source() *rand.Rand { return rand.New(rand.NewSource(14)) }

func pick[T any](r *rand.Rand, l ...T) T { return l[r.Intn(len(l))] }

func put(lsn uint64, key, value string) api.Record {
	return api.Record{LSN: lsn, Kind: api.Put, Key: key, Value: value}
}

func gone(lsn uint64, key string) api.Record {
	return api.Record{LSN: lsn, Kind: api.Delete, Key: key}
}

// made once, since frames are written again and again
var (
	castagnoli = crc32.MakeTable(crc32.Castagnoli)
	escaper    = strings.NewReplacer("\xa7", "\xa6\x01", "\xa6", "\xa6\x00")
)

func sumByWords(s string) uint32 { return crc32.Checksum([]byte(s), castagnoli) }

// digits are the so many groups of seven bits of a number, the highest first.
func digits(n uint64, count int) string {
	b := make([]byte, count)
	for i := range b {
		b[i] = byte(n >> (7 * (count - 1 - i)) & 0x7f)
	}
	return string(b)
}

func varint(n uint64) string { return string(binary.AppendUvarint(nil, n)) }

// framed lays what a frame has around a body.
func framed(body string) string {
	escaped := escaper.Replace(body)
	inner := digits(uint64(len(escaped)), 3) + escaped
	return "\xa7" + inner + digits(uint64(sumByWords(inner)), 5)
}

// bodyByWords is the body of a record that may be.
func bodyByWords(r api.Record) string {
	if r.Kind == api.Delete {
		return "\x02" + varint(r.LSN) + r.Key
	}
	return "\x01" + varint(r.LSN) + varint(uint64(len(r.Key))) + r.Key + r.Value
}

// whole is the frame of a record that may be.
func whole(r api.Record) string { return framed(bodyByWords(r)) }

// laid is the frames of records, one behind the other.
func laid(l ...api.Record) string {
	s := ""
	for _, r := range l {
		s += whole(r)
	}
	return s
}

func hintFrame(p api.Pointer) string {
	return framed("\x03" + varint(p.LSN) + string([]byte{byte(p.Kind)}) + varint(uint64(p.At)) + varint(uint64(p.Len)) + p.Key)
}

func footFrame(e api.Ending) string {
	return framed("\x04" + varint(uint64(e.Count)) + varint(uint64(e.Print.Bytes)) + varint(uint64(e.Print.Frames)) + varint(uint64(e.Print.Sum)))
}

// rightFor is the hint file of a segment of these records.
func rightFor(l ...api.Record) string {
	s, at := "", 0
	for _, r := range l {
		size := len(whole(r))
		s += hintFrame(api.Pointer{LSN: r.LSN, Kind: r.Kind, At: at, Len: size, Key: r.Key})
		at += size
	}
	return s + footFrame(api.Ending{Count: len(l), Print: api.Print{Bytes: at, Frames: len(l), Sum: sumByWords(laid(l...))}})
}

// the names that most tests need
const (
	seg1, seg2, seg3, seg4     = "seg-00000001.log", "seg-00000002.log", "seg-00000003.log", "seg-00000004.log"
	hint1, hint2, hint3, hint4 = "seg-00000001.hint", "seg-00000002.hint", "seg-00000003.hint", "seg-00000004.hint"
	room                       = 100000
)

var (
	pointer = hintFrame(api.Pointer{LSN: 1, Kind: api.Put, Len: 14, Key: "a"})
	foot    = footFrame(api.Ending{Count: 3})
	name60  = strings.Repeat("n", 60)
	name61  = strings.Repeat("n", 61)
)

// files are made of names and texts by turns.
func files(l ...string) []api.File {
	var out []api.File
	for i := 0; i < len(l); i += 2 {
		out = append(out, api.File{Name: l[i], Data: []byte(l[i+1])})
	}
	return out
}

// segments are texts, numbered from 1 on.
func segments(l ...string) []api.File {
	var out []api.File
	for i, s := range l {
		out = append(out, api.File{Name: fmt.Sprintf("seg-%08x.log", i+1), Data: []byte(s)})
	}
	return out
}

// clean is a segment of these records, and its right hint file.
func clean(number int, l ...api.Record) []api.File {
	return files(fmt.Sprintf("seg-%08x.log", number), laid(l...), fmt.Sprintf("seg-%08x.hint", number), rightFor(l...))
}

func byNames(l []api.File) []api.File {
	return slices.SortedFunc(slices.Values(l), func(x, y api.File) int { return strings.Compare(x.Name, y.Name) })
}

func remove(name string) api.Step { return api.Step{Op: api.StepRemove, Name: name} }

// ahead are the three steps by which a file is written ahead.
func ahead(name, data string) []api.Step {
	return []api.Step{
		{Op: api.StepWrite, Name: name + ".tmp", Data: []byte(data)},
		{Op: api.StepSync, Name: name + ".tmp"},
		{Op: api.StepRename, Name: name + ".tmp", To: name},
	}
}

// adds are the steps by which a new segment and its hint file are laid down.
func adds(number int, l ...api.Record) []api.Step {
	return slices.Concat(ahead(fmt.Sprintf("seg-%08x.log", number), laid(l...)), ahead(fmt.Sprintf("seg-%08x.hint", number), rightFor(l...)))
}

func sumOf(l []api.File) int {
	n := 0
	for _, f := range l {
		n += len(f.Data)
	}
	return n
}

func ofName(l []api.File, name string) ([]byte, bool) {
	i := slices.IndexFunc(l, func(f api.File) bool { return f.Name == name })
	if i < 0 {
		return nil, false
	}
	return l[i].Data, true
}

// sameFiles tells whether two lists have the same files, in the same order.
func sameFiles(x, y []api.File) bool {
	return slices.EqualFunc(x, y, func(f, g api.File) bool { return f.Name == g.Name && bytes.Equal(f.Data, g.Data) })
}

// diskOf is a disk with these files, all of whose bytes last.
func diskOf(t *testing.T, capacity int, l ...api.File) *vdisk.Disk {
	t.Helper()
	d, errno := vdisk.New(capacity, l...)
	if errno != api.OK {
		t.Fatalf("vdisk.New of %s: %d", sayFiles(l), errno)
	}
	return d
}

// fault is something that befalls an act.
type fault struct {
	what string
	arm  func(d *vdisk.Disk, n int) api.Errno
	want api.Errno
}

var faults = []fault{
	{"fails", func(d *vdisk.Disk, n int) api.Errno { return d.FailAt(n) }, api.ErrDiskIO},
	{"breaks off", func(d *vdisk.Disk, n int) api.Errno { return d.BreakAt(n, false) }, api.ErrDiskDown},
	{"breaks off, done", func(d *vdisk.Disk, n int) api.Errno { return d.BreakAt(n, true) }, api.ErrDiskDown},
}

// framesByWords are what layer 4 takes as a frame, at whatever place.
func framesByWords(b []byte) []api.Located {
	var l []api.Located
	for at := range b {
		if b[at] != 0xa7 {
			continue
		}
		if f, count, errno := frame.Decode(b, at); errno == api.OK {
			l = append(l, api.Located{Frame: f, At: at, Len: count})
		}
	}
	return l
}

func isRecord(f api.Located) bool { return f.Frame.Kind == api.Put || f.Frame.Kind == api.Delete }

// recordsIn are the records of some bytes, whatever else they have.
func recordsIn(b []byte) []api.Record {
	var l []api.Record
	for _, f := range framesByWords(b) {
		if isRecord(f) {
			l = append(l, f.Frame.Record)
		}
	}
	return l
}

func isSegment(f api.File) bool {
	class, _ := names.Parse(f.Name)
	return class == api.Segment
}

// isOld tells whether a file is a segment that is clean, of Puts and Deletes alone.
func isOld(f api.File) bool {
	left := len(f.Data)
	for _, x := range framesByWords(f.Data) {
		if !isRecord(x) {
			return false
		}
		left -= x.Len
	}
	return isSegment(f) && left == 0
}

func oldOf(l []api.File) []api.File {
	return slices.DeleteFunc(slices.Clone(l), func(f api.File) bool { return !isOld(f) })
}

// recordsOf are all records in segments.
func recordsOf(l []api.File) []api.Record {
	var all []api.Record
	for _, f := range l {
		if isSegment(f) {
			all = append(all, recordsIn(f.Data)...)
		}
	}
	return all
}

func topOf(l []api.File) uint64 {
	top := uint64(0)
	for _, r := range recordsOf(l) {
		top = max(top, r.LSN)
	}
	return top
}

// isAhead tells whether of two records of one key the first one counts.
func isAhead(x, y api.Record) bool {
	if x.LSN != y.LSN {
		return x.LSN > y.LSN
	}
	return bodyByWords(x) > bodyByWords(y)
}

// counts tells whether a record is the one of its key that counts.
func counts(r api.Record, all []api.Record) bool {
	return !slices.ContainsFunc(all, func(x api.Record) bool { return x.Key == r.Key && isAhead(x, r) })
}

// liveOf is of each key that has a value this, by keys, of all records in segments.
func liveOf(l []api.File) []api.Pair {
	all := recordsOf(l)
	var pairs []api.Pair
	for _, r := range all {
		if r.Kind == api.Put && counts(r, all) {
			pairs = append(pairs, api.Pair{Key: r.Key, Value: r.Value})
		}
	}
	slices.SortFunc(pairs, func(x, y api.Pair) int { return strings.Compare(x.Key, y.Key) })
	return slices.Compact(pairs)
}

// keepByWords is what a merge keeps, by the chapter's words: each record of an old segment is held against all others.
func keepByWords(l []api.File) []api.Record {
	all, top := recordsOf(l), topOf(l)
	var kept []api.Record
	for _, r := range recordsOf(oldOf(l)) {
		another := slices.ContainsFunc(all, func(x api.Record) bool { return x.Key == r.Key && x != r })
		stays := r.Kind == api.Put || another || r.LSN == top
		if counts(r, all) && stays && !slices.Contains(kept, r) {
			kept = append(kept, r)
		}
	}
	slices.SortFunc(kept, func(x, y api.Record) int {
		switch {
		case x.LSN < y.LSN:
			return -1
		case x.LSN > y.LSN:
			return 1
		}
		return strings.Compare(x.Key, y.Key)
	})
	return kept
}

func sizeByWords(size int) bool { return 64 <= size && size <= 1048576 }

// newByWords are the new segments.
func newByWords(size int, kept []api.Record) []string {
	var all []string
	for _, r := range kept {
		n := len(all) - 1
		if n >= 0 && len(all[n]+whole(r)) <= size {
			all[n] += whole(r)
		} else {
			all = append(all, whole(r))
		}
	}
	return all
}

// freshByWords asks for a number for a new segment beside all that are there behind some steps.
func freshByWords(l []api.File, steps []api.Step) int {
	now, _ := plan.Apply(l, steps...)
	var all []string
	for _, f := range now {
		all = append(all, f.Name)
	}
	number, _ := names.Fresh(api.Segment, all...)
	return int(number)
}

func mayBeByWords(l []api.File) bool {
	for i, f := range l {
		if _, twice := ofName(l[:i], f.Name); twice || len(f.Name) < 1 || len(f.Name) > 60 {
			return false
		}
	}
	return sumOf(l) <= 4194304
}

func stepsByWords(l []api.File, size int) []api.Step {
	old, fresh := byNames(oldOf(l)), newByWords(size, keepByWords(l))
	same := len(old) == len(fresh)
	for i := range old {
		same = same && string(old[i].Data) == fresh[i]
	}
	if same {
		return nil
	}
	var steps []api.Step
	for _, s := range fresh {
		steps = append(steps, adds(freshByWords(l, steps), recordsIn([]byte(s))...)...)
	}
	for _, f := range old {
		hints := strings.TrimSuffix(f.Name, "log") + "hint"
		if _, there := ofName(l, hints); there {
			steps = append(steps, remove(hints))
		}
		steps = append(steps, remove(f.Name))
	}
	return steps
}

func planByWords(l []api.File, size, capacity int) (api.Plan, api.Errno) {
	if !sizeByWords(size) {
		return api.Plan{}, api.ErrMergeArg
	}
	if capacity < 0 || capacity > 4194304 || !mayBeByWords(l) || sumOf(l) > capacity {
		return api.Plan{}, api.ErrPlanArg
	}
	p := api.Plan{Steps: stepsByWords(l, size), Report: api.Report{Top: topOf(l), Frames: len(keepByWords(l))}}
	for _, f := range byNames(oldOf(l)) {
		p.Report.Files = append(p.Report.Files, api.Account{Name: f.Name, Class: api.Segment})
	}
	p.Peak = sumOf(l)
	for n := range p.Steps {
		now, _ := plan.Apply(l, p.Steps[:n+1]...)
		p.Peak = max(p.Peak, sumOf(now))
	}
	if p.Peak > capacity {
		return api.Plan{}, api.ErrPlanFull
	}
	return p, api.OK
}

func runByWords(d *vdisk.Disk, size int) api.Errno {
	if !sizeByWords(size) {
		return api.ErrMergeArg
	}
	if d.Down() {
		return api.ErrDiskDown
	}
	p, errno := planByWords(d.Files(), size, d.Capacity())
	if errno != api.OK {
		return errno
	}
	_, errno = mend.Run(d, p.Steps...)
	return errno
}

// ops are the words for them, for what a test says.
var ops = []string{"no op", "remove", "write", "sync", "rename", "truncate"}

// shortly is some bytes in few words: two unlike ones have unlike words, but for the same sums.
func shortly(b []byte) string {
	if len(b) <= 60 {
		return fmt.Sprintf("%q", b)
	}
	return fmt.Sprintf("%q.. (%d bytes, sum %08x)", b[:20], len(b), crc32.ChecksumIEEE(b))
}

func sayFiles(l []api.File) string {
	s := fmt.Sprintf("%d files:", len(l))
	for _, f := range l {
		s += fmt.Sprintf(" %q=%s", f.Name, shortly(f.Data))
	}
	return s
}

func saySteps(l []api.Step) string {
	s := fmt.Sprintf("%d steps:", len(l))
	for _, x := range l {
		op := fmt.Sprint(int(x.Op))
		if x.Op >= 0 && int(x.Op) < len(ops) {
			op = ops[x.Op]
		}
		s += fmt.Sprintf(" %s %q %q %d %s;", op, x.Name, x.To, x.N, shortly(x.Data))
	}
	return s
}

func sayReport(r api.Report) string {
	s := fmt.Sprintf("top %d, %d frames, %d bytes of junk;", r.Top, r.Frames, r.Junk)
	for _, a := range r.Files {
		s += fmt.Sprintf(" %q of class %d %v bad %q hint %d;", a.Name, a.Class, a.Extents, a.Bad, a.Hint)
	}
	return s
}

func sayPlan(p api.Plan) string {
	return saySteps(p.Steps) + "\n  " + sayReport(p.Report) + fmt.Sprintf("\n  peak %d", p.Peak)
}

// sayDisk is all that a disk tells of itself.
func sayDisk(d *vdisk.Disk) string {
	return fmt.Sprintf("%s lasting %s down %v, %d acts, %d of %d bytes", sayFiles(d.Files()), sayFiles(d.Lasting()), d.Down(), d.Acts(), d.Used(), d.Capacity())
}

// checkKeep holds what Keep tells of files, and that it is what the chapter's words ask for.
func checkKeep(t *testing.T, l []api.File, want ...api.Record) {
	t.Helper()
	if byWords := keepByWords(l); !slices.Equal(byWords, want) {
		t.Fatalf("by words %s keeps %v, want %v", sayFiles(l), byWords, want)
	}
	if got := merge.Keep(l...); !slices.Equal(got, want) {
		t.Fatalf("Keep of %s = %v, want %v", sayFiles(l), got, want)
	}
}

// checkPlan holds that Plan tells what the chapter's words ask for.
func checkPlan(t *testing.T, l []api.File, size, capacity int) (api.Plan, api.Errno) {
	t.Helper()
	got, errno := merge.Plan(l, size, capacity)
	want, wantErrno := planByWords(l, size, capacity)
	if sayPlan(got) != sayPlan(want) || errno != wantErrno {
		t.Fatalf("Plan of %s, %d, %d =\n  %s, %d, want\n  %s, %d", sayFiles(l), size, capacity, sayPlan(got), errno, sayPlan(want), wantErrno)
	}
	return got, errno
}

// checkRun has one of two disks that are alike merged, by words the other, and wants both to be alike then.
func checkRun(t *testing.T, one, other *vdisk.Disk, size int) api.Errno {
	t.Helper()
	before := sayDisk(one)
	errno := merge.Run(one, size)
	if want := runByWords(other, size); errno != want {
		t.Fatalf("Run of %s, %d = %d, want %d", before, size, errno, want)
	}
	if got, want := sayDisk(one), sayDisk(other); got != want {
		t.Fatalf("Run of %s, %d leaves\n  %s, want\n  %s", before, size, got, want)
	}
	return errno
}

// What the tests take for frames are frames, and what they take for hint files are right: else they would test nothing.
func TestTheTestsHaveFrames(t *testing.T) {
	if whole(put(1, "k", "v")) != "\xa7\x00\x00\x05\x01\x01\x01kv\x0e\x7d\x39\x08\x4c" {
		t.Errorf("the small frame is %x", whole(put(1, "k", "v")))
	}
	l := []api.Record{put(0xa7, "\xa6", "\xa7"), gone(1<<64-1, "k"), put(3, strings.Repeat("k", 64), strings.Repeat("\xa7", 2048))}
	if got := recordsIn([]byte("x" + laid(l...) + pointer + foot)); !slices.Equal(got, l) {
		t.Errorf("the records are %v", got)
	}
	for n := range len(l) + 1 {
		if right, errno := hint.Of([]byte(laid(l[:n]...))); string(right) != rightFor(l[:n]...) || errno != api.OK {
			t.Errorf("of %d records the hint file is %x", n, right)
		}
	}
	for _, f := range append(segments("x", laid(l...)+"x", laid(l[0])+foot, pointer), files("seg-00000000.log", laid(l...), hint1, "")...) {
		if isOld(f) {
			t.Errorf("%s is an old segment", sayFiles([]api.File{f}))
		}
	}
	if old := oldOf(append(segments("", laid(l...)), files("other", "")...)); len(old) != 2 {
		t.Errorf("the old segments are %s", sayFiles(old))
	}
}
