package mend_test

import (
	"bytes"
	"encoding/binary"
	"fmt"
	"hash/crc32"
	"math/rand"
	"slices"
	"strings"
	"testing"

	"salvor/api"
	"salvor/frame"
	"salvor/hint"
	"salvor/keydir"
	"salvor/mend"
	"salvor/names"
	"salvor/plan"
	"salvor/vdisk"
)

func source() *rand.Rand { return rand.New(rand.NewSource(12)) }

func pick[T any](r *rand.Rand, l ...T) T { return l[r.Intn(len(l))] }

func put(lsn uint64, key, value string) api.Record {
	return api.Record{LSN: lsn, Kind: api.Put, Key: key, Value: value}
}

func gone(lsn uint64, key string) api.Record {
	return api.Record{LSN: lsn, Kind: api.Delete, Key: key}
}

// made once, since frames are written again and again
var (
	castagnoli = crc32.MakeTable(crc32.Castagnoli)
	escaper    = strings.NewReplacer("\xa7", "\xa6\x01", "\xa6", "\xa6\x00")
)

func sumByWords(s string) uint32 { return crc32.Checksum([]byte(s), castagnoli) }

// digits are the so many groups of seven bits of a number, the highest first.
func digits(n uint64, count int) string {
	b := make([]byte, count)
	for i := range b {
		b[i] = byte(n >> (7 * (count - 1 - i)) & 0x7f)
	}
	return string(b)
}

func varint(n uint64) string { return string(binary.AppendUvarint(nil, n)) }

// framed lays what a frame has around a body.
func framed(body string) string {
	escaped := escaper.Replace(body)
	inner := digits(uint64(len(escaped)), 3) + escaped
	return "\xa7" + inner + digits(uint64(sumByWords(inner)), 5)
}

// bodyByWords is the body of a record that may be.
func bodyByWords(r api.Record) string {
	if r.Kind == api.Delete {
		return "\x02" + varint(r.LSN) + r.Key
	}
	return "\x01" + varint(r.LSN) + varint(uint64(len(r.Key))) + r.Key + r.Value
}

// whole is the frame of a record that may be.
func whole(r api.Record) string { return framed(bodyByWords(r)) }

// laid is the frames of records, one behind the other.
func laid(l ...api.Record) string {
	s := ""
	for _, r := range l {
		s += whole(r)
	}
	return s
}

func hintFrame(p api.Pointer) string {
	return framed("\x03" + varint(p.LSN) + string([]byte{byte(p.Kind)}) + varint(uint64(p.At)) + varint(uint64(p.Len)) + p.Key)
}

func footFrame(e api.Ending) string {
	return framed("\x04" + varint(uint64(e.Count)) + varint(uint64(e.Print.Bytes)) + varint(uint64(e.Print.Frames)) + varint(uint64(e.Print.Sum)))
}

// pointersTo are those to records that lie one behind the other.
func pointersTo(l ...api.Record) []api.Pointer {
	var pointers []api.Pointer
	at := 0
	for _, r := range l {
		pointers = append(pointers, api.Pointer{LSN: r.LSN, Kind: r.Kind, At: at, Len: len(whole(r)), Key: r.Key})
		at += len(whole(r))
	}
	return pointers
}

// hintsOf are pointers, and an ending for a segment of so many frames and these bytes.
func hintsOf(segment string, frames int, l ...api.Pointer) string {
	s := ""
	for _, p := range l {
		s += hintFrame(p)
	}
	return s + footFrame(api.Ending{Count: frames, Print: api.Print{Bytes: len(segment), Frames: frames, Sum: sumByWords(segment)}})
}

// rightFor is the hint file of a segment of these records.
func rightFor(l ...api.Record) string { return hintsOf(laid(l...), len(l), pointersTo(l...)...) }

// the names that most tests need
const (
	seg1, seg2, seg3    = "seg-00000001.log", "seg-00000002.log", "seg-00000003.log"
	hint1, hint2, hint3 = "seg-00000001.hint", "seg-00000002.hint", "seg-00000003.hint"
	bad1, bad2, bad3    = "bad-00000001.bin", "bad-00000002.bin", "bad-00000003.bin"
	room                = 100000
)

var (
	recA, recB, recC = put(7, "a", "x"), gone(3, "bb"), put(5, "c", "")
	a, b, c          = whole(recA), whole(recB), whole(recC)
	pointer, foot    = hintFrame(pointersTo(recA)[0]), footFrame(api.Ending{Count: 3})
	name60, name61   = strings.Repeat("n", 60), strings.Repeat("n", 61)
)

// files are made of names and texts by turns.
func files(l ...string) []api.File {
	var out []api.File
	for i := 0; i < len(l); i += 2 {
		out = append(out, api.File{Name: l[i], Data: []byte(l[i+1])})
	}
	return out
}

func remove(name string) api.Step { return api.Step{Op: api.StepRemove, Name: name} }

func write(name, data string) api.Step {
	return api.Step{Op: api.StepWrite, Name: name, Data: []byte(data)}
}

func sync(name string) api.Step { return api.Step{Op: api.StepSync, Name: name} }

func rename(name, to string) api.Step { return api.Step{Op: api.StepRename, Name: name, To: to} }

func truncate(name string, n int) api.Step {
	return api.Step{Op: api.StepTruncate, Name: name, N: n}
}

// ahead are the three steps by which a file is written ahead.
func ahead(name, data string) []api.Step {
	return []api.Step{write(name+".tmp", data), sync(name + ".tmp"), rename(name+".tmp", name)}
}

func sumOf(l []api.File) int {
	n := 0
	for _, f := range l {
		n += len(f.Data)
	}
	return n
}

func ofName(l []api.File, name string) ([]byte, bool) {
	i := slices.IndexFunc(l, func(f api.File) bool { return f.Name == name })
	if i < 0 {
		return nil, false
	}
	return l[i].Data, true
}

// sameFiles tells whether two lists have the same files, in the same order.
func sameFiles(x, y []api.File) bool {
	return slices.EqualFunc(x, y, func(f, g api.File) bool { return f.Name == g.Name && bytes.Equal(f.Data, g.Data) })
}

// diskOf is a disk with these files, all of whose bytes last.
func diskOf(t *testing.T, capacity int, l ...api.File) *vdisk.Disk {
	t.Helper()
	d, errno := vdisk.New(capacity, l...)
	if errno != api.OK {
		t.Fatalf("vdisk.New of %s: %d", sayFiles(l), errno)
	}
	return d
}

// unsynced lays bytes behind those of files, which do not last.
func unsynced(t *testing.T, d *vdisk.Disk, l ...api.File) *vdisk.Disk {
	t.Helper()
	for _, f := range l {
		if errno := d.Append(f.Name, f.Data); errno != api.OK {
			t.Fatalf("Append to %q: %d", f.Name, errno)
		}
	}
	return d
}

// fault is something that befalls an act.
type fault struct {
	what string
	arm  func(d *vdisk.Disk, n int) api.Errno
	want api.Errno
	done bool // what the act asks for is done all the same
}

var faults = []fault{
	{"fails", func(d *vdisk.Disk, n int) api.Errno { return d.FailAt(n) }, api.ErrDiskIO, false},
	{"breaks off", func(d *vdisk.Disk, n int) api.Errno { return d.BreakAt(n, false) }, api.ErrDiskDown, false},
	{"breaks off, done", func(d *vdisk.Disk, n int) api.Errno { return d.BreakAt(n, true) }, api.ErrDiskDown, true},
}

// actsByWords are the acts of a step, in the order of the chapter's table; none, if its Op is none.
func actsByWords(d *vdisk.Disk, s api.Step) []func() api.Errno {
	switch s.Op {
	case api.StepRemove:
		return []func() api.Errno{func() api.Errno { return d.Remove(s.Name) }}
	case api.StepWrite:
		acts := []func() api.Errno{func() api.Errno { return d.Create(s.Name) }}
		if len(s.Data) > 0 {
			acts = append(acts, func() api.Errno { return d.Append(s.Name, s.Data) })
		}
		return acts
	case api.StepSync:
		return []func() api.Errno{func() api.Errno { return d.Sync(s.Name) }}
	case api.StepRename:
		return []func() api.Errno{func() api.Errno { return d.Rename(s.Name, s.To) }}
	case api.StepTruncate:
		return []func() api.Errno{func() api.Errno { return d.Truncate(s.Name, s.N) }}
	}
	return nil
}

// countActs is how many acts steps are, if all of them are done.
func countActs(steps []api.Step) int {
	n := 0
	for _, s := range steps {
		n += len(actsByWords(nil, s))
	}
	return n
}

func runByWords(d *vdisk.Disk, steps ...api.Step) (int, api.Errno) {
	for _, s := range steps {
		if actsByWords(d, s) == nil {
			return 0, api.ErrPlanArg
		}
	}
	for n, s := range steps {
		for _, act := range actsByWords(d, s) {
			if errno := act(); errno != api.OK {
				return n, errno
			}
		}
	}
	return len(steps), api.OK
}

// framesByWords are what layer 4 takes as a frame, at whatever place.
func framesByWords(b []byte) []api.Located {
	var l []api.Located
	for at := range b {
		if b[at] != 0xa7 {
			continue
		}
		if f, count, errno := frame.Decode(b, at); errno == api.OK {
			l = append(l, api.Located{Frame: f, At: at, Len: count})
		}
	}
	return l
}

// junkByWords is all that belongs to no frame, one run behind the other.
func junkByWords(b []byte) string {
	junk := bytes.Clone(b)
	frames := framesByWords(b)
	slices.Reverse(frames)
	for _, f := range frames {
		junk = slices.Delete(junk, f.At, f.At+f.Len)
	}
	return string(junk)
}

// seenByWords is all that is to be seen in files: each record in a segment, with its place and body.
func seenByWords(l []api.File) []api.Seen {
	var all []api.Seen
	for _, f := range l {
		class, number := names.Parse(f.Name)
		if class != api.Segment {
			continue
		}
		for _, x := range framesByWords(f.Data) {
			r := x.Frame.Record
			if r.Kind == api.Put || r.Kind == api.Delete {
				place := api.Place{Segment: number, At: x.At, Len: x.Len}
				all = append(all, api.Seen{Key: r.Key, LSN: r.LSN, Kind: r.Kind, Place: place, Known: true, Body: bodyByWords(r)})
			}
		}
	}
	return all
}

// isAhead tells whether of two records of one key the first one counts; of two copies the one with the lesser place.
func isAhead(x, y api.Seen) bool {
	switch {
	case x.LSN != y.LSN:
		return x.LSN > y.LSN
	case x.Body != y.Body:
		return x.Body > y.Body
	case x.Place.Segment != y.Place.Segment:
		return x.Place.Segment < y.Place.Segment
	}
	return x.Place.At < y.Place.At
}

// countingByWords is of each key what counts, by keys.
func countingByWords(all []api.Seen) []api.Seen {
	var l []api.Seen
	for _, s := range all {
		i := slices.IndexFunc(l, func(x api.Seen) bool { return x.Key == s.Key })
		if i < 0 {
			l = append(l, s)
		} else if isAhead(s, l[i]) {
			l[i] = s
		}
	}
	slices.SortFunc(l, func(x, y api.Seen) int { return strings.Compare(x.Key, y.Key) })
	return l
}

// worth is of each key the body of the record that counts, of all segments of some files: FOLD of V, wherever records stand.
func worth(l []api.File) []string {
	var bodies []string
	for _, s := range countingByWords(seenByWords(l)) {
		bodies = append(bodies, s.Key+"\x00"+s.Body)
	}
	return bodies
}

func keysOf(all []api.Seen) []string {
	var keys []string
	for _, s := range all {
		keys = append(keys, s.Key)
	}
	slices.Sort(keys)
	return slices.Compact(keys)
}

// tell is all that a directory tells of some keys.
func tell(dir *keydir.Dir, keys []string) string {
	s := fmt.Sprintf("keys %q, top %d, rivals %v;", dir.Keys(), dir.Top(), dir.Rivals())
	for _, key := range keys {
		last, lastErrno := dir.Last(key)
		get, getErrno := dir.Get(key)
		s += fmt.Sprintf(" %q: %+v, %d; %+v, %d;", key, last, lastErrno, get, getErrno)
	}
	for x := range dir.All() {
		s += fmt.Sprintf(" %+v", x)
	}
	return s
}

// tellByWords is what a directory must tell of some keys, if it knows just this.
func tellByWords(all []api.Seen, keys []string) string {
	counting := countingByWords(all)
	var puts []api.Seen
	for _, s := range counting {
		if s.Kind == api.Put {
			puts = append(puts, s)
		}
	}
	top := uint64(0)
	for _, s := range all {
		top = max(top, s.LSN)
	}
	s := fmt.Sprintf("keys %q, top %d, rivals %v;", keysOf(puts), top, []api.Place{})
	for _, key := range keys {
		last, get := api.Seen{}, api.Seen{}
		lastErrno, getErrno := api.ErrKeydirNone, api.ErrKeydirNone
		for _, x := range counting {
			if x.Key != key {
				continue
			}
			last, lastErrno = x, api.OK
			if x.Kind == api.Put {
				get, getErrno = x, api.OK
			}
		}
		s += fmt.Sprintf(" %q: %+v, %d; %+v, %d;", key, last, lastErrno, get, getErrno)
	}
	for _, x := range puts {
		s += fmt.Sprintf(" %+v", x)
	}
	return s
}

// checkDir holds that a directory knows just all records of some files: also those that do not count, which come to light when segments are dropped.
func checkDir(t *testing.T, dir *keydir.Dir, l []api.File) {
	t.Helper()
	if dir == nil {
		t.Fatalf("of %s there is no directory", sayFiles(l))
	}
	all := seenByWords(l)
	keys := append(keysOf(all), "", "never", "a", "k")
	if got, want := tell(dir, keys), tellByWords(all, keys); got != want {
		t.Fatalf("of %s the directory tells\n  %s, want\n  %s", sayFiles(l), got, want)
	}
	var numbers []uint32
	for _, s := range all {
		if !slices.Contains(numbers, s.Place.Segment) {
			numbers = append(numbers, s.Place.Segment)
		}
	}
	for set := 1; set < 1<<min(len(numbers), 5); set++ {
		var dropped []uint32
		for i, number := range numbers {
			if set>>i&1 == 1 {
				dropped = append(dropped, number)
			}
		}
		part := keydir.New()
		part.Join(dir)
		part.Drop(dropped...)
		left := slices.DeleteFunc(slices.Clone(all), func(s api.Seen) bool { return slices.Contains(dropped, s.Place.Segment) })
		if got, want := tell(part, keys), tellByWords(left, keys); got != want {
			t.Fatalf("of %s, without the segments %v, the directory tells\n  %s, want\n  %s", sayFiles(l), dropped, got, want)
		}
	}
}

// deepByWords salvages a disk by the chapter's words, but for its directory, which is to be made of the files that are there then.
func deepByWords(d *vdisk.Disk) (api.Report, api.Errno) {
	if d.Down() {
		return api.Report{}, api.ErrDiskDown
	}
	p, errno := plan.Deep(d.Files(), d.Capacity())
	if errno != api.OK {
		return api.Report{}, errno
	}
	if _, errno := runByWords(d, p.Steps...); errno != api.OK {
		return api.Report{}, errno
	}
	return p.Report, api.OK
}

// verdicts and ops are the words for them, for what a test says.
var (
	verdicts = []string{"none", "fine", "missing", "stale", "damaged", "forged", "orphan"}
	ops      = []string{"no op", "remove", "write", "sync", "rename", "truncate"}
)

// shortly is some bytes in few words: two unlike ones have unlike words, but for the same sums.
func shortly(b []byte) string {
	if len(b) <= 60 {
		return fmt.Sprintf("%q", b)
	}
	return fmt.Sprintf("%q.. (%d bytes, sum %08x)", b[:20], len(b), crc32.ChecksumIEEE(b))
}

func sayFiles(l []api.File) string {
	s := fmt.Sprintf("%d files:", len(l))
	for _, f := range l {
		s += fmt.Sprintf(" %q=%s", f.Name, shortly(f.Data))
	}
	return s
}

func saySteps(l []api.Step) string {
	s := fmt.Sprintf("%d steps:", len(l))
	for _, x := range l {
		op := fmt.Sprint(int(x.Op))
		if x.Op >= 0 && int(x.Op) < len(ops) {
			op = ops[x.Op]
		}
		s += fmt.Sprintf(" %s %q %q %d %s;", op, x.Name, x.To, x.N, shortly(x.Data))
	}
	return s
}

func sayReport(r api.Report) string {
	s := fmt.Sprintf("top %d, %d frames, %d bytes of junk;", r.Top, r.Frames, r.Junk)
	for _, a := range r.Files {
		s += fmt.Sprintf(" %q of class %d %v bad %q hint %s;", a.Name, a.Class, a.Extents, a.Bad, verdicts[a.Hint])
	}
	return s
}

// sayDisk is all that a disk tells of itself.
func sayDisk(d *vdisk.Disk) string {
	return fmt.Sprintf("%s lasting %s down %v, %d acts, %d of %d bytes", sayFiles(d.Files()), sayFiles(d.Lasting()), d.Down(), d.Acts(), d.Used(), d.Capacity())
}

// checkRun has steps done on one of two disks that are alike, by words on the other, and wants both to be alike then.
func checkRun(t *testing.T, one, other *vdisk.Disk, steps ...api.Step) (int, api.Errno) {
	t.Helper()
	before := sayDisk(one)
	got, errno := mend.Run(one, steps...)
	want, wantErrno := runByWords(other, steps...)
	if got != want || errno != wantErrno {
		t.Fatalf("Run of %s on %s = %d, %d, want %d, %d", saySteps(steps), before, got, errno, want, wantErrno)
	}
	if got, want := sayDisk(one), sayDisk(other); got != want {
		t.Fatalf("Run of %s on %s leaves\n  %s, want\n  %s", saySteps(steps), before, got, want)
	}
	return got, errno
}

// checkDeep has one of two disks that are alike salvaged, by words the other, and wants both to be alike then, and what is told to be as it should.
func checkDeep(t *testing.T, one, other *vdisk.Disk) (*keydir.Dir, api.Report, api.Errno) {
	t.Helper()
	before := sayDisk(one)
	dir, report, errno := mend.Deep(one)
	want, wantErrno := deepByWords(other)
	if errno != wantErrno || sayReport(report) != sayReport(want) {
		t.Fatalf("Deep of %s = %s, %d, want %s, %d", before, sayReport(report), errno, sayReport(want), wantErrno)
	}
	if got, want := sayDisk(one), sayDisk(other); got != want {
		t.Fatalf("Deep of %s leaves\n  %s, want\n  %s", before, got, want)
	}
	if errno != api.OK {
		if dir != nil || report.Files != nil {
			t.Fatalf("Deep of %s: %d, and a directory or a list all the same", before, errno)
		}
		return dir, report, errno
	}
	checkDir(t, dir, one.Files())
	return dir, report, errno
}

// What the tests take for frames are frames, and what they take for hint files are right: else they would test nothing.
func TestTheTestsHaveFrames(t *testing.T) {
	if whole(put(1, "k", "v")) != "\xa7\x00\x00\x05\x01\x01\x01kv\x0e\x7d\x39\x08\x4c" {
		t.Errorf("the small frame is %x", whole(put(1, "k", "v")))
	}
	l := []api.Record{put(0xa7, "\xa6", "\xa7"), gone(1<<64-1, "k"), put(3, strings.Repeat("k", 64), strings.Repeat("\xa7", 2048))}
	got := framesByWords([]byte(laid(l...)))
	if len(got) != 3 || got[0].Frame.Record != l[0] || got[1].Frame.Record != l[1] || got[2].Frame.Record != l[2] {
		t.Errorf("the frames are %v", got)
	}
	for n := range len(l) + 1 {
		if right, errno := hint.Of([]byte(laid(l[:n]...))); string(right) != rightFor(l[:n]...) || errno != api.OK {
			t.Errorf("of %d records the hint file is %x", n, right)
		}
	}
	if junk := junkByWords([]byte("x" + a + "yz" + foot + "\xa7")); junk != "xyz\xa7" {
		t.Errorf("the junk is %q", junk)
	}
}
