package fast_test

import (
	"bytes"
	"cmp"
	"encoding/binary"
	"fmt"
	"hash/crc32"
	"maps"
	"math/rand"
	"slices"
	"strings"
	"testing"

	"salvor/api"
	"salvor/fast"
	"salvor/frame"
	"salvor/hint"
	"salvor/keydir"
	"salvor/names"
	"salvor/plan"
	"salvor/segment"
	"salvor/vdisk"
)

func source() *rand.Rand { return rand.New(rand.NewSource(13)) }

func pick[T any](r *rand.Rand, l ...T) T { return l[r.Intn(len(l))] }

func put(lsn uint64, key, value string) api.Record {
	return api.Record{LSN: lsn, Kind: api.Put, Key: key, Value: value}
}

func gone(lsn uint64, key string) api.Record {
	return api.Record{LSN: lsn, Kind: api.Delete, Key: key}
}

// made once, since frames are written again and again
var (
	castagnoli = crc32.MakeTable(crc32.Castagnoli)
	escaper    = strings.NewReplacer("\xa7", "\xa6\x01", "\xa6", "\xa6\x00")
)

func sumByWords(s string) uint32 { return crc32.Checksum([]byte(s), castagnoli) }

// digits are the so many groups of seven bits of a number, the highest first.
func digits(n uint64, count int) string {
	b := make([]byte, count)
	for i := range b {
		b[i] = byte(n >> (7 * (count - 1 - i)) & 0x7f)
	}
	return string(b)
}

func varint(n uint64) string { return string(binary.AppendUvarint(nil, n)) }

// framed lays what a frame has around a body.
func framed(body string) string {
	escaped := escaper.Replace(body)
	inner := digits(uint64(len(escaped)), 3) + escaped
	return "\xa7" + inner + digits(uint64(sumByWords(inner)), 5)
}

// bodyByWords is the body of a record that may be.
func bodyByWords(r api.Record) string {
	if r.Kind == api.Delete {
		return "\x02" + varint(r.LSN) + r.Key
	}
	return "\x01" + varint(r.LSN) + varint(uint64(len(r.Key))) + r.Key + r.Value
}

// whole is the frame of a record that may be.
func whole(r api.Record) string { return framed(bodyByWords(r)) }

// laid is the frames of records, one behind the other.
func laid(l ...api.Record) string {
	s := ""
	for _, r := range l {
		s += whole(r)
	}
	return s
}

func hintFrame(p api.Pointer) string {
	return framed("\x03" + varint(p.LSN) + string([]byte{byte(p.Kind)}) + varint(uint64(p.At)) + varint(uint64(p.Len)) + p.Key)
}

func footFrame(e api.Ending) string {
	return framed("\x04" + varint(uint64(e.Count)) + varint(uint64(e.Print.Bytes)) + varint(uint64(e.Print.Frames)) + varint(uint64(e.Print.Sum)))
}

// pointersTo are those to records that lie one behind the other.
func pointersTo(l ...api.Record) []api.Pointer {
	var pointers []api.Pointer
	at := 0
	for _, r := range l {
		pointers = append(pointers, api.Pointer{LSN: r.LSN, Kind: r.Kind, At: at, Len: len(whole(r)), Key: r.Key})
		at += len(whole(r))
	}
	return pointers
}

// hintsOf are pointers, and an ending for a segment of as many frames and these bytes.
func hintsOf(segment string, l ...api.Pointer) string {
	s := ""
	for _, p := range l {
		s += hintFrame(p)
	}
	return s + footFrame(api.Ending{Count: len(l), Print: api.Print{Bytes: len(segment), Frames: len(l), Sum: sumByWords(segment)}})
}

// rightFor is the hint file of a segment of these records.
func rightFor(l ...api.Record) string { return hintsOf(laid(l...), pointersTo(l...)...) }

// lie is a hint file for a segment of these records in which what is said of one of them is turned.
func lie(n int, turn func(p *api.Pointer), l ...api.Record) string {
	pointers := pointersTo(l...)
	turn(&pointers[n])
	return hintsOf(laid(l...), pointers...)
}

// says is a turn: it makes a pointer say another thing.
func says(lsn uint64, kind api.Kind, key string) func(p *api.Pointer) {
	return func(p *api.Pointer) { p.LSN, p.Kind, p.Key = lsn, kind, key }
}

// the names that most tests need
const (
	seg1, seg2, seg3, seg4     = "seg-00000001.log", "seg-00000002.log", "seg-00000003.log", "seg-00000004.log"
	hint1, hint2, hint3, hint4 = "seg-00000001.hint", "seg-00000002.hint", "seg-00000003.hint", "seg-00000004.hint"
	bad1, bad2                 = "bad-00000001.bin", "bad-00000002.bin"
	room                       = 100000
)

var (
	recA, recB, recC = put(7, "a", "x"), gone(3, "bb"), put(5, "c", "")
	a, b, c          = whole(recA), whole(recB), whole(recC)
	pointer, foot    = hintFrame(pointersTo(recA)[0]), footFrame(api.Ending{Count: 3})
	name60, name61   = strings.Repeat("n", 60), strings.Repeat("n", 61)
)

// files are made of names and texts by turns.
func files(l ...string) []api.File {
	var out []api.File
	for i := 0; i < len(l); i += 2 {
		out = append(out, api.File{Name: l[i], Data: []byte(l[i+1])})
	}
	return out
}

// clean is a segment of some records with its right hint file.
func clean(number int, l ...api.Record) []api.File {
	return with(number, rightFor(l...), l...)
}

// with is a segment of some records with a hint file.
func with(number int, hints string, l ...api.Record) []api.File {
	return files(fmt.Sprintf("seg-%08x.log", number), laid(l...), fmt.Sprintf("seg-%08x.hint", number), hints)
}

func sumOf(l []api.File) int {
	n := 0
	for _, f := range l {
		n += len(f.Data)
	}
	return n
}

func ofName(l []api.File, name string) ([]byte, bool) {
	i := slices.IndexFunc(l, func(f api.File) bool { return f.Name == name })
	if i < 0 {
		return nil, false
	}
	return l[i].Data, true
}

// sameFiles tells whether two lists have the same files, in the same order.
func sameFiles(x, y []api.File) bool {
	return slices.EqualFunc(x, y, func(f, g api.File) bool { return f.Name == g.Name && bytes.Equal(f.Data, g.Data) })
}

// byNames are files in the order of their names.
func byNames(l []api.File) []api.File {
	return slices.SortedFunc(slices.Values(l), func(x, y api.File) int { return strings.Compare(x.Name, y.Name) })
}

// diskOf is a disk with these files, all of whose bytes last.
func diskOf(t *testing.T, capacity int, l ...api.File) *vdisk.Disk {
	t.Helper()
	d, errno := vdisk.New(capacity, l...)
	if errno != api.OK {
		t.Fatalf("vdisk.New of %s: %d", sayFiles(l), errno)
	}
	return d
}

// unsynced lays bytes behind those of files, which do not last.
func unsynced(t *testing.T, d *vdisk.Disk, l ...api.File) *vdisk.Disk {
	t.Helper()
	for _, f := range l {
		if errno := d.Append(f.Name, f.Data); errno != api.OK {
			t.Fatalf("Append to %q: %d", f.Name, errno)
		}
	}
	return d
}

// fault is something that befalls an act.
type fault struct {
	what string
	arm  func(d *vdisk.Disk, n int) api.Errno
	want api.Errno
}

var faults = []fault{
	{"fails", func(d *vdisk.Disk, n int) api.Errno { return d.FailAt(n) }, api.ErrDiskIO},
	{"breaks off", func(d *vdisk.Disk, n int) api.Errno { return d.BreakAt(n, false) }, api.ErrDiskDown},
	{"breaks off, done", func(d *vdisk.Disk, n int) api.Errno { return d.BreakAt(n, true) }, api.ErrDiskDown},
}

// do does a step, by the acts of layer 12.
func do(d *vdisk.Disk, s api.Step) api.Errno {
	switch s.Op {
	case api.StepRemove:
		return d.Remove(s.Name)
	case api.StepWrite:
		if errno := d.Create(s.Name); errno != api.OK || len(s.Data) == 0 {
			return errno
		}
		return d.Append(s.Name, s.Data)
	case api.StepSync:
		return d.Sync(s.Name)
	case api.StepRename:
		return d.Rename(s.Name, s.To)
	}
	return d.Truncate(s.Name, s.N)
}

// framesByWords are what layer 4 takes as a frame, at whatever place.
func framesByWords(b []byte) []api.Located {
	var l []api.Located
	for at := range b {
		if b[at] != 0xa7 {
			continue
		}
		if f, count, errno := frame.Decode(b, at); errno == api.OK {
			l = append(l, api.Located{Frame: f, At: at, Len: count})
		}
	}
	return l
}

// junkByWords is all that belongs to no frame, one run behind the other.
func junkByWords(b []byte) string {
	junk := bytes.Clone(b)
	frames := framesByWords(b)
	slices.Reverse(frames)
	for _, f := range frames {
		junk = slices.Delete(junk, f.At, f.At+f.Len)
	}
	return string(junk)
}

func isRecord(r api.Record) bool { return r.Kind == api.Put || r.Kind == api.Delete }

// seen is a record that stands at a place: Known, with its body.
func seen(r api.Record, number uint32, at int) api.Seen {
	s := pointed(r, number, at)
	s.Known, s.Body = true, bodyByWords(r)
	return s
}

// pointed is a record of which a pointer tells.
func pointed(r api.Record, number uint32, at int) api.Seen {
	return api.Seen{Key: r.Key, LSN: r.LSN, Kind: r.Kind, Place: api.Place{Segment: number, At: at, Len: len(whole(r))}}
}

// lookedInto is each record in some bytes.
func lookedInto(number uint32, b []byte) []api.Seen {
	var all []api.Seen
	for _, x := range framesByWords(b) {
		if isRecord(x.Frame.Record) {
			all = append(all, seen(x.Frame.Record, number, x.At))
		}
	}
	return all
}

// ofClass are the bytes of the files of a class by their numbers.
func ofClass(c api.Class, l []api.File) map[uint32][]byte {
	some := map[uint32][]byte{}
	for _, f := range l {
		if class, number := names.Parse(f.Name); class == c {
			some[number] = f.Data
		}
	}
	return some
}

// seenByWords is all that is to be seen in files: each record in a segment, with its place and body.
func seenByWords(l []api.File) []api.Seen {
	var all []api.Seen
	for number, data := range ofClass(api.Segment, l) {
		all = append(all, lookedInto(number, data)...)
	}
	return all
}

func keysOf(all []api.Seen) []string {
	var keys []string
	for _, s := range all {
		keys = append(keys, s.Key)
	}
	slices.Sort(keys)
	return slices.Compact(keys)
}

func comparePlaces(x, y api.Place) int {
	return cmp.Or(cmp.Compare(x.Segment, y.Segment), cmp.Compare(x.At, y.At), cmp.Compare(x.Len, y.Len))
}

// rivalsByWords are those of a key with the greatest LSN; false, if it is open which one counts. (No two have the same place here.)
func rivalsByWords(all []api.Seen, key string) ([]api.Seen, bool) {
	var l []api.Seen
	for _, s := range all {
		if s.Key != key || len(l) > 0 && s.LSN < l[0].LSN {
			continue
		}
		if len(l) > 0 && s.LSN > l[0].LSN {
			l = nil
		}
		l = append(l, s)
	}
	bare := slices.ContainsFunc(l, func(s api.Seen) bool { return !s.Known })
	return l, len(l) < 2 || !bare
}

// lastByWords is what counts of a key, of all that is known.
func lastByWords(all []api.Seen, key string) (api.Seen, api.Errno) {
	l, settled := rivalsByWords(all, key)
	switch {
	case len(l) == 0:
		return api.Seen{}, api.ErrKeydirNone
	case !settled:
		return api.Seen{}, api.ErrKeydirOpen
	}
	slices.SortFunc(l, func(x, y api.Seen) int {
		return cmp.Or(strings.Compare(y.Body, x.Body), comparePlaces(x.Place, y.Place))
	})
	return l[0], api.OK
}

// wantedByWords is all whose bodies are wanted, by places.
func wantedByWords(all []api.Seen) []api.Seen {
	var wanted []api.Seen
	for _, key := range keysOf(all) {
		l, settled := rivalsByWords(all, key)
		for _, s := range l {
			if !settled && !s.Known {
				wanted = append(wanted, s)
			}
		}
	}
	slices.SortFunc(wanted, func(x, y api.Seen) int { return comparePlaces(x.Place, y.Place) })
	return wanted
}

// bodyAt is the body of the record that stands at a place.
func bodyAt(l []api.File, p api.Place) string {
	for _, s := range lookedInto(p.Segment, ofClass(api.Segment, l)[p.Segment]) {
		if s.Place == p {
			return s.Body
		}
	}
	return "nothing"
}

// settledByWords is all that is known when the places that are wanted were settled.
func settledByWords(l []api.File, all []api.Seen) []api.Seen {
	all = slices.Clone(all)
	for _, s := range wantedByWords(all) {
		i := slices.Index(all, s)
		all[i].Known, all[i].Body = true, bodyAt(l, s.Place)
	}
	return all
}

// fineByWords are the pointers of a hint file; false, if it is none by its form, or for another segment.
func fineByWords(data, segment []byte) ([]api.Pointer, bool) {
	var pointers []api.Pointer
	at, next := 0, 0
	l := framesByWords(data)
	for i, x := range l {
		if x.At != at {
			return nil, false
		}
		at += x.Len
		if i == len(l)-1 {
			break
		}
		if x.Frame.Kind != api.Hint || x.Frame.Pointer.At != next {
			return nil, false
		}
		next += x.Frame.Pointer.Len
		pointers = append(pointers, x.Frame.Pointer)
	}
	if len(l) == 0 || at != len(data) || l[len(l)-1].Frame.Kind != api.Foot {
		return nil, false
	}
	print := api.Print{Bytes: len(segment), Frames: len(framesByWords(segment)), Sum: sumByWords(string(segment))}
	ending := api.Ending{Count: len(pointers), Print: print}
	return pointers, l[len(l)-1].Frame.Ending == ending && print.Frames == len(pointers) && print.Bytes == next
}

// beliefs are the pointers of each segment that is believed.
type beliefs map[uint32][]api.Pointer

// beliefsAtFirst are the fine hint files.
func beliefsAtFirst(l []api.File) beliefs {
	believed := beliefs{}
	hints := ofClass(api.Hints, l)
	for number, data := range ofClass(api.Segment, l) {
		h, there := hints[number]
		if pointers, fine := fineByWords(h, data); there && fine {
			believed[number] = pointers
		}
	}
	return believed
}

// tells is what all segments tell.
func (believed beliefs) tells(l []api.File) []api.Seen {
	var all []api.Seen
	for number, data := range ofClass(api.Segment, l) {
		pointers, is := believed[number]
		if !is {
			all = append(all, lookedInto(number, data)...)
		}
		for _, p := range pointers {
			all = append(all, api.Seen{Key: p.Key, LSN: p.LSN, Kind: p.Kind, Place: api.Place{Segment: number, At: p.At, Len: p.Len}})
		}
	}
	return all
}

// isTrue asks a pointer.
func isTrue(l []api.File, s api.Seen) bool {
	return slices.ContainsFunc(lookedInto(s.Place.Segment, ofClass(api.Segment, l)[s.Place.Segment]), func(x api.Seen) bool {
		x.Known, x.Body = false, ""
		return x == s
	})
}

// drop believes those that are caught no more, and tells who that is.
func (believed beliefs) drop(l []api.File, asked []api.Seen) []uint32 {
	var caught []uint32
	for _, s := range asked {
		if !isTrue(l, s) && !slices.Contains(caught, s.Place.Segment) {
			caught = append(caught, s.Place.Segment)
		}
	}
	for _, number := range caught {
		delete(believed, number)
	}
	slices.Sort(caught)
	return caught
}

// believedByWords finds out which segments are believed, and who was caught in which step, by the chapter's words.
func believedByWords(l []api.File) (beliefs, []string) {
	believed := beliefsAtFirst(l)
	var trace []string
	for {
		all := believed.tells(l)
		if caught := believed.drop(l, wantedByWords(all)); len(caught) > 0 {
			trace = append(trace, fmt.Sprint("step 2 ", caught))
			continue
		}
		all = settledByWords(l, all)
		var counting []api.Seen
		for _, key := range keysOf(all) {
			if s, _ := lastByWords(all, key); !s.Known {
				counting = append(counting, s)
			}
		}
		if caught := believed.drop(l, counting); len(caught) > 0 {
			trace = append(trace, fmt.Sprint("step 3 ", caught))
			continue
		}
		return believed, trace
	}
}

// planByWords is the plan, and all that the directory must know.
func planByWords(l []api.File, capacity int) (api.Plan, []api.Seen, api.Errno) {
	if _, errno := plan.Deep(l, capacity); errno == api.ErrPlanArg {
		return api.Plan{}, nil, errno
	}
	believed, _ := believedByWords(l)
	p, errno := plan.Deep(l, capacity, slices.Collect(maps.Keys(believed))...)
	if errno != api.OK {
		return api.Plan{}, nil, errno
	}
	then, _ := plan.Apply(l, p.Steps...)
	all := settledByWords(then, believed.tells(then))
	p.Report.Top = 0
	for _, s := range all {
		p.Report.Top = max(p.Report.Top, s.LSN)
	}
	return p, all, api.OK
}

// salvageByWords salvages a disk, and tells the report and all that the directory must know.
func salvageByWords(d *vdisk.Disk) ([]api.Seen, api.Report, api.Errno) {
	if d.Down() {
		return nil, api.Report{}, api.ErrDiskDown
	}
	p, all, errno := planByWords(d.Files(), d.Capacity())
	if errno != api.OK {
		return nil, api.Report{}, errno
	}
	for _, s := range p.Steps {
		if errno := do(d, s); errno != api.OK {
			return nil, api.Report{}, errno
		}
	}
	return all, p.Report, api.OK
}

// tell is all that a directory tells of some keys.
func tell(dir *keydir.Dir, keys []string) string {
	s := fmt.Sprintf("keys %q, top %d, rivals %v;", dir.Keys(), dir.Top(), dir.Rivals())
	for _, key := range keys {
		last, lastErrno := dir.Last(key)
		get, getErrno := dir.Get(key)
		s += fmt.Sprintf(" %q: %+v, %d; %+v, %d;", key, last, lastErrno, get, getErrno)
	}
	for x := range dir.All() {
		s += fmt.Sprintf(" %+v", x)
	}
	return s
}

// tellByWords is what a directory must tell of some keys, if it knows just this.
func tellByWords(all []api.Seen, keys []string) string {
	var puts []api.Seen
	for _, key := range keysOf(all) {
		if s, errno := lastByWords(all, key); errno == api.OK && s.Kind == api.Put {
			puts = append(puts, s)
		}
	}
	top := uint64(0)
	for _, s := range all {
		top = max(top, s.LSN)
	}
	var places []api.Place
	for _, s := range wantedByWords(all) {
		places = append(places, s.Place)
	}
	s := fmt.Sprintf("keys %q, top %d, rivals %v;", keysOf(puts), top, places)
	for _, key := range keys {
		last, lastErrno := lastByWords(all, key)
		get, getErrno := last, lastErrno
		if last.Kind == api.Delete {
			get, getErrno = api.Seen{}, api.ErrKeydirNone
		}
		s += fmt.Sprintf(" %q: %+v, %d; %+v, %d;", key, last, lastErrno, get, getErrno)
	}
	for _, x := range puts {
		s += fmt.Sprintf(" %+v", x)
	}
	return s
}

// checkDir holds that a directory knows just this: also what does not count, which comes to light when segments are dropped.
func checkDir(t *testing.T, dir *keydir.Dir, all ...api.Seen) {
	t.Helper()
	if dir == nil {
		t.Fatalf("there is no directory, want %+v", all)
	}
	keys := append(keysOf(all), "", "never", "a", "k")
	if got, want := tell(dir, keys), tellByWords(all, keys); got != want {
		t.Fatalf("the directory tells\n  %s, want\n  %s", got, want)
	}
	var numbers []uint32
	for _, s := range all {
		if !slices.Contains(numbers, s.Place.Segment) {
			numbers = append(numbers, s.Place.Segment)
		}
	}
	for set := 1; set < 1<<min(len(numbers), 5); set++ {
		var dropped []uint32
		for i, number := range numbers {
			if set>>i&1 == 1 {
				dropped = append(dropped, number)
			}
		}
		part := keydir.New()
		part.Join(dir)
		part.Drop(dropped...)
		left := slices.DeleteFunc(slices.Clone(all), func(s api.Seen) bool { return slices.Contains(dropped, s.Place.Segment) })
		if got, want := tell(part, keys), tellByWords(left, keys); got != want {
			t.Fatalf("without the segments %v the directory tells\n  %s, want\n  %s", dropped, got, want)
		}
	}
}

// checkPlan holds that Plan tells what the chapter's words ask for.
func checkPlan(t *testing.T, l []api.File, capacity int) (api.Plan, *keydir.Dir, api.Errno) {
	t.Helper()
	p, dir, errno := fast.Plan(l, capacity)
	want, all, wantErrno := planByWords(l, capacity)
	if errno != wantErrno || sayPlan(p) != sayPlan(want) {
		t.Fatalf("Plan of %s for %d bytes =\n  %s, %d, want\n  %s, %d", sayFiles(l), capacity, sayPlan(p), errno, sayPlan(want), wantErrno)
	}
	if errno != api.OK {
		if dir != nil || p.Steps != nil || p.Report.Files != nil {
			t.Fatalf("Plan of %s for %d bytes: %d, and a directory or a list all the same", sayFiles(l), capacity, errno)
		}
		return p, dir, errno
	}
	checkDir(t, dir, all...)
	return p, dir, errno
}

// checkSalvage has one of two disks that are alike salvaged, by words the other, and wants both to be alike then, and what is told to be as it should.
func checkSalvage(t *testing.T, one, other *vdisk.Disk) (*keydir.Dir, api.Report, api.Errno) {
	t.Helper()
	before := sayDisk(one)
	dir, report, errno := fast.Salvage(one)
	all, want, wantErrno := salvageByWords(other)
	if errno != wantErrno || sayReport(report) != sayReport(want) {
		t.Fatalf("Salvage of %s =\n  %s, %d, want\n  %s, %d", before, sayReport(report), errno, sayReport(want), wantErrno)
	}
	if got, want := sayDisk(one), sayDisk(other); got != want {
		t.Fatalf("Salvage of %s leaves\n  %s, want\n  %s", before, got, want)
	}
	if errno != api.OK {
		if dir != nil || report.Files != nil {
			t.Fatalf("Salvage of %s: %d, and a directory or a list all the same", before, errno)
		}
		return dir, report, errno
	}
	checkDir(t, dir, all...)
	return dir, report, errno
}

// verdicts and ops are the words for them, for what a test says.
var (
	verdicts = []string{"none", "fine", "missing", "stale", "damaged", "forged", "orphan"}
	ops      = []string{"no op", "remove", "write", "sync", "rename", "truncate"}
)

// shortly is some bytes in few words: two unlike ones have unlike words, but for the same sums.
func shortly(b []byte) string {
	if len(b) <= 60 {
		return fmt.Sprintf("%q", b)
	}
	return fmt.Sprintf("%q.. (%d bytes, sum %08x)", b[:20], len(b), crc32.ChecksumIEEE(b))
}

func sayFiles(l []api.File) string {
	s := fmt.Sprintf("%d files:", len(l))
	for _, f := range l {
		s += fmt.Sprintf(" %q=%s", f.Name, shortly(f.Data))
	}
	return s
}

func saySteps(l []api.Step) string {
	s := fmt.Sprintf("%d steps:", len(l))
	for _, x := range l {
		s += fmt.Sprintf(" %s %q %q %d %s;", ops[x.Op], x.Name, x.To, x.N, shortly(x.Data))
	}
	return s
}

func sayReport(r api.Report) string {
	s := fmt.Sprintf("top %d, %d frames, %d bytes of junk;", r.Top, r.Frames, r.Junk)
	for _, a := range r.Files {
		s += fmt.Sprintf(" %q of class %d %v bad %q hint %s;", a.Name, a.Class, a.Extents, a.Bad, verdicts[a.Hint])
	}
	return s
}

func sayPlan(p api.Plan) string {
	return fmt.Sprintf("%s peak %d, %s", saySteps(p.Steps), p.Peak, sayReport(p.Report))
}

// sayDisk is all that a disk tells of itself.
func sayDisk(d *vdisk.Disk) string {
	return fmt.Sprintf("%s lasting %s down %v, %d acts, %d of %d bytes", sayFiles(d.Files()), sayFiles(d.Lasting()), d.Down(), d.Acts(), d.Used(), d.Capacity())
}

// What the tests take for frames are frames, and what they take for hint files are right or forged: else they would test nothing.
func TestTheTestsHaveFrames(t *testing.T) {
	if whole(put(1, "k", "v")) != "\xa7\x00\x00\x05\x01\x01\x01kv\x0e\x7d\x39\x08\x4c" {
		t.Errorf("the small frame is %x", whole(put(1, "k", "v")))
	}
	l := []api.Record{put(0xa7, "\xa6", "\xa7"), gone(1<<64-1, "k"), put(3, strings.Repeat("k", 64), strings.Repeat("\xa7", 2048))}
	got := framesByWords([]byte(laid(l...)))
	if len(got) != 3 || got[0].Frame.Record != l[0] || got[1].Frame.Record != l[1] || got[2].Frame.Record != l[2] {
		t.Errorf("the frames are %v", got)
	}
	for n := range len(l) + 1 {
		if right, errno := hint.Of([]byte(laid(l[:n]...))); string(right) != rightFor(l[:n]...) || errno != api.OK {
			t.Errorf("of %d records the hint file is %x", n, right)
		}
	}
	if junk := junkByWords([]byte("x" + a + "yz" + foot + "\xa7")); junk != "xyz\xa7" {
		t.Errorf("the junk is %q", junk)
	}
	forged := lie(1, says(9, api.Put, "z"), recA, recB)
	pointers, verdict := hint.Load([]byte(forged), segment.Print([]byte(a+b)))
	if verdict != api.HintFine || pointers[1] != (api.Pointer{LSN: 9, Kind: api.Put, Key: "z", At: len(a), Len: len(b)}) {
		t.Errorf("the forged hint file is %v, %d", pointers, verdict)
	}
}

// The tests' own verdict on hint files is that of layer 10.
func TestTheTestsKnowFineHintFiles(t *testing.T) {
	r := source()
	fine := 0
	for range 20000 {
		l := anyDirectory(r)
		hints := ofClass(api.Hints, l)
		for number, data := range ofClass(api.Segment, l) {
			got, is := fineByWords(hints[number], data)
			want, verdict := hint.Load(hints[number], segment.Print(data))
			if is != (verdict == api.HintFine) || is && !slices.Equal(got, want) {
				t.Fatalf("of %s the hint file of %d: %v, %v, want %v, %s", sayFiles(l), number, got, is, want, verdicts[verdict])
			}
			if is {
				fine++
			}
		}
	}
	if fine < 20000 {
		t.Errorf("only %d fine ones", fine)
	}
}
