package store_test

import (
	"encoding/binary"
	"fmt"
	"hash/crc32"
	"iter"
	"maps"
	"math/rand"
	"slices"
	"strings"
	"testing"

	"salvor/api"
	"salvor/fast"
	"salvor/frame"
	"salvor/keydir"
	"salvor/mend"
	"salvor/merge"
	"salvor/names"
	"salvor/segment"
	"salvor/store"
	"salvor/vdisk"
)

func source() *rand.Rand { return rand.New(rand.NewSource(15)) }

func pick[T any](r *rand.Rand, l ...T) T { return l[r.Intn(len(l))] }

func put(lsn uint64, key, value string) api.Record {
	return api.Record{LSN: lsn, Kind: api.Put, Key: key, Value: value}
}

func gone(lsn uint64, key string) api.Record {
	return api.Record{LSN: lsn, Kind: api.Delete, Key: key}
}

// made once, since frames are written again and again
var (
	castagnoli = crc32.MakeTable(crc32.Castagnoli)
	escaper    = strings.NewReplacer("\xa7", "\xa6\x01", "\xa6", "\xa6\x00")
)

func sumByWords(s string) uint32 { return crc32.Checksum([]byte(s), castagnoli) }

// digits are the so many groups of seven bits of a number, the highest first.
func digits(n uint64, count int) string {
	b := make([]byte, count)
	for i := range b {
		b[i] = byte(n >> (7 * (count - 1 - i)) & 0x7f)
	}
	return string(b)
}

func varint(n uint64) string { return string(binary.AppendUvarint(nil, n)) }

// framed lays what a frame has around a body.
func framed(body string) string {
	escaped := escaper.Replace(body)
	inner := digits(uint64(len(escaped)), 3) + escaped
	return "\xa7" + inner + digits(uint64(sumByWords(inner)), 5)
}

// bodyByWords is the body of a record that may be.
func bodyByWords(r api.Record) string {
	if r.Kind == api.Delete {
		return "\x02" + varint(r.LSN) + r.Key
	}
	return "\x01" + varint(r.LSN) + varint(uint64(len(r.Key))) + r.Key + r.Value
}

// whole is the frame of a record that may be.
func whole(r api.Record) string { return framed(bodyByWords(r)) }

// laid is the frames of records, one behind the other.
func laid(l ...api.Record) string {
	s := ""
	for _, r := range l {
		s += whole(r)
	}
	return s
}

func hintFrame(p api.Pointer) string {
	return framed("\x03" + varint(p.LSN) + string([]byte{byte(p.Kind)}) + varint(uint64(p.At)) + varint(uint64(p.Len)) + p.Key)
}

func footFrame(e api.Ending) string {
	return framed("\x04" + varint(uint64(e.Count)) + varint(uint64(e.Print.Bytes)) + varint(uint64(e.Print.Frames)) + varint(uint64(e.Print.Sum)))
}

// hintSaying is a hint file for a segment of records of which it says that they are others.
func hintSaying(says func(i int, p *api.Pointer), l ...api.Record) string {
	s, at := "", 0
	for i, r := range l {
		p := api.Pointer{LSN: r.LSN, Kind: r.Kind, At: at, Len: len(whole(r)), Key: r.Key}
		at += p.Len
		says(i, &p)
		s += hintFrame(p)
	}
	return s + footFrame(api.Ending{Count: len(l), Print: api.Print{Bytes: at, Frames: len(l), Sum: sumByWords(laid(l...))}})
}

// rightFor is the hint file of a segment of these records.
func rightFor(l ...api.Record) string { return hintSaying(func(int, *api.Pointer) {}, l...) }

// the names that most tests need
const (
	seg1, seg2, seg3, seg4 = "seg-00000001.log", "seg-00000002.log", "seg-00000003.log", "seg-00000004.log"
	hint1, hint2, hint3    = "seg-00000001.hint", "seg-00000002.hint", "seg-00000003.hint"
	bad1                   = "bad-00000001.bin"
	room                   = 100000
	spent                  = 1<<64 - 1 // the greatest LSN
)

// what opens most stores: nothing lasts by itself, and a segment has some records
var (
	plain   = api.Config{Limit: 100}
	ample   = api.Config{Limit: 1000}
	key64   = strings.Repeat("k", 64)
	key65   = strings.Repeat("k", 65)
	value48 = strings.Repeat("v", 2048)
	value49 = strings.Repeat("v", 2049)
)

// files are made of names and texts by turns.
func files(l ...string) []api.File {
	var out []api.File
	for i := 0; i < len(l); i += 2 {
		out = append(out, api.File{Name: l[i], Data: []byte(l[i+1])})
	}
	return out
}

func segmentName(n uint32) string { return fmt.Sprintf("seg-%08x.log", n) }

// clean is a segment of these records, and its right hint file.
func clean(number int, l ...api.Record) []api.File {
	return files(fmt.Sprintf("seg-%08x.log", number), laid(l...), fmt.Sprintf("seg-%08x.hint", number), rightFor(l...))
}

func ofName(l []api.File, name string) (string, bool) {
	i := slices.IndexFunc(l, func(f api.File) bool { return f.Name == name })
	if i < 0 {
		return "", false
	}
	return string(l[i].Data), true
}

func sumOf(l []api.File) int {
	n := 0
	for _, f := range l {
		n += len(f.Data)
	}
	return n
}

// diskOf is a disk with these files, all of whose bytes last.
func diskOf(t *testing.T, capacity int, l ...api.File) *vdisk.Disk {
	t.Helper()
	d, errno := vdisk.New(capacity, l...)
	if errno != api.OK {
		t.Fatalf("vdisk.New of %s: %d", sayFiles(l), errno)
	}
	return d
}

func isOK(t *testing.T, errno api.Errno) {
	t.Helper()
	if errno != api.OK {
		t.Fatalf("an act of a test: %d", errno)
	}
}

// opened is a store on a disk.
func opened(t *testing.T, d *vdisk.Disk, c api.Config) *store.Store {
	t.Helper()
	s, _, err := store.Open(d, c)
	if err != nil || s == nil {
		t.Fatalf("Open of %s with %v: %v", sayDisk(d), c, err)
	}
	return s
}

// fault is something that befalls an act.
type fault struct {
	what string
	arm  func(d *vdisk.Disk, n int) api.Errno
	want api.Errno
}

var faults = []fault{
	{"fails", func(d *vdisk.Disk, n int) api.Errno { return d.FailAt(n) }, api.ErrDiskIO},
	{"breaks off", func(d *vdisk.Disk, n int) api.Errno { return d.BreakAt(n, false) }, api.ErrDiskDown},
	{"breaks off, done", func(d *vdisk.Disk, n int) api.Errno { return d.BreakAt(n, true) }, api.ErrDiskDown},
}

// framesByWords are what layer 4 takes as a frame, at whatever place.
func framesByWords(b []byte) []api.Located {
	var l []api.Located
	for at := range b {
		if b[at] != 0xa7 {
			continue
		}
		if f, count, errno := frame.Decode(b, at); errno == api.OK {
			l = append(l, api.Located{Frame: f, At: at, Len: count})
		}
	}
	return l
}

func isSegment(name string) bool {
	class, _ := names.Parse(name)
	return class == api.Segment
}

// fact is a record, and where it stands.
type fact struct {
	record api.Record
	place  api.Place
}

// factsOf are all records in segments, by places.
func factsOf(l []api.File) []fact {
	var all []fact
	for _, f := range l {
		class, number := names.Parse(f.Name)
		if class != api.Segment {
			continue
		}
		for _, x := range framesByWords(f.Data) {
			if x.Frame.Kind == api.Put || x.Frame.Kind == api.Delete {
				all = append(all, fact{x.Frame.Record, api.Place{Segment: number, At: x.At, Len: x.Len}})
			}
		}
	}
	return all
}

func topOf(l []api.File) uint64 {
	top := uint64(0)
	for _, f := range factsOf(l) {
		top = max(top, f.record.LSN)
	}
	return top
}

// isAhead tells whether of two records of one key the first one counts.
func isAhead(x, y api.Record) bool {
	if x.LSN != y.LSN {
		return x.LSN > y.LSN
	}
	return bodyByWords(x) > bodyByWords(y)
}

// foldOf is of each key what counts of all records in segments, at its least place.
func foldOf(l []api.File) map[string]fact {
	counting := map[string]fact{}
	for _, f := range factsOf(l) {
		if other, there := counting[f.record.Key]; !there || isAhead(f.record, other.record) {
			counting[f.record.Key] = f
		}
	}
	return counting
}

// valuesIn is of each key that has one its value, by all records in segments.
func valuesIn(l []api.File) map[string]string {
	values := map[string]string{}
	for key, f := range foldOf(l) {
		if f.record.Kind == api.Put {
			values[key] = f.record.Value
		}
	}
	return values
}

// keeping is what a store and its paper both can do.
type keeping interface {
	Put(key, value string) error
	Delete(keys ...string) error
	Get(key string) (string, bool, error)
	Keys() []string
	All() iter.Seq2[string, string]
	Sync() error
	Merge() error
	Close() error
	Last() uint64
}

var _ keeping = (*store.Store)(nil)

// paper is a store as the chapter's words have it: what is known is a map, from keys to what counts.
type paper struct {
	disk           *vdisk.Disk
	config         api.Config
	known          map[string]fact // of Deletes nothing; of Puts no value
	writer         *segment.Writer
	last           uint64
	closed, broken bool
}

func failed(call string, errno api.Errno) error {
	if errno == api.OK {
		return nil
	}
	return &api.Failure{Call: call, Err: errno}
}

func openByWords(d *vdisk.Disk, c api.Config) (keeping, api.Report, error) {
	if c.Limit < 64 || c.Limit > 1048576 || c.Every < 0 || c.Every > 1000 {
		return nil, api.Report{}, failed("Open", api.ErrStoreArg)
	}
	var dir *keydir.Dir
	var report api.Report
	var errno api.Errno
	if c.Fast {
		dir, report, errno = fast.Salvage(d)
	} else {
		dir, report, errno = mend.Deep(d)
	}
	if errno != api.OK {
		return nil, api.Report{}, failed("Open", errno)
	}
	there, lasting := d.Files(), d.Lasting()
	for i, f := range there {
		if isSegment(f.Name) && len(lasting[i].Data) < len(f.Data) {
			if errno := d.Sync(f.Name); errno != api.OK {
				return nil, api.Report{}, failed("Open", errno)
			}
		}
	}
	p := &paper{disk: d, config: c, known: map[string]fact{}, last: report.Top}
	for s := range dir.All() {
		p.known[s.Key] = fact{put(s.LSN, s.Key, ""), s.Place}
	}
	p.writer, _ = segment.Start(d, c.Limit, c.Every)
	return p, report, nil
}

func mayBeKey(key string) bool { return len(key) >= 1 && len(key) <= 64 }

// write writes a record that may be, and tells the error of a call.
func (p *paper) write(call string, kind api.Kind, key, value string) error {
	r := api.Record{LSN: p.last + 1, Kind: kind, Key: key, Value: value}
	place, errno := p.writer.Put(r)
	if errno != api.OK {
		return p.breaks(call, errno)
	}
	p.last++
	delete(p.known, key)
	if kind == api.Put {
		p.known[key] = fact{put(r.LSN, key, ""), place}
	}
	return nil
}

// breaks takes the store as broken, if the error of a call says so.
func (p *paper) breaks(call string, errno api.Errno) error {
	if errno == api.ErrDiskIO || errno == api.ErrDiskDown {
		p.broken = true
	}
	return failed(call, errno)
}

func (p *paper) Put(key, value string) error {
	if p.closed {
		return failed("Put", api.ErrStoreClosed)
	}
	if !mayBeKey(key) {
		return failed("Put", api.ErrStoreKey)
	}
	if len(value) > 2048 {
		return failed("Put", api.ErrStoreValue)
	}
	if p.broken {
		return failed("Put", api.ErrStoreBroken)
	}
	if p.last == spent {
		return failed("Put", api.ErrStoreSpent)
	}
	return p.write("Put", api.Put, key, value)
}

func (p *paper) Delete(keys ...string) error {
	if p.closed {
		return failed("Delete", api.ErrStoreClosed)
	}
	for _, key := range keys {
		if !mayBeKey(key) {
			return failed("Delete", api.ErrStoreKey)
		}
	}
	if p.broken {
		return failed("Delete", api.ErrStoreBroken)
	}
	var each []string
	for i, key := range keys {
		if _, has := p.known[key]; has && !slices.Contains(keys[:i], key) {
			each = append(each, key)
		}
	}
	if uint64(len(each)) > spent-p.last {
		return failed("Delete", api.ErrStoreSpent)
	}
	for _, key := range each {
		if err := p.write("Delete", api.Delete, key, ""); err != nil {
			return err
		}
	}
	return nil
}

func (p *paper) Get(key string) (string, bool, error) {
	if p.closed {
		return "", false, failed("Get", api.ErrStoreClosed)
	}
	if !mayBeKey(key) {
		return "", false, failed("Get", api.ErrStoreKey)
	}
	f, has := p.known[key]
	if !has {
		return "", false, nil
	}
	b, errno := p.disk.Read(segmentName(f.place.Segment), f.place.At, f.place.Len)
	if errno != api.OK && errno != api.ErrDiskNone {
		return "", false, failed("Get", errno)
	}
	stands := framesByWords(b)
	if len(b) < f.place.Len || len(stands) != 1 || stands[0].Len != len(b) {
		return "", false, failed("Get", api.ErrStoreBad)
	}
	r := stands[0].Frame.Record
	if r != put(f.record.LSN, key, r.Value) {
		return "", false, failed("Get", api.ErrStoreBad)
	}
	return r.Value, true, nil
}

func (p *paper) Keys() []string {
	if p.closed {
		return nil
	}
	return slices.Sorted(maps.Keys(p.known))
}

func (p *paper) All() iter.Seq2[string, string] {
	return func(yield func(string, string) bool) {
		for _, key := range p.Keys() {
			value, has, err := p.Get(key)
			if err == nil && has && !yield(key, value) {
				return
			}
		}
	}
}

func (p *paper) Sync() error {
	if p.closed {
		return failed("Sync", api.ErrStoreClosed)
	}
	if p.broken {
		return failed("Sync", api.ErrStoreBroken)
	}
	return p.breaks("Sync", p.writer.Sync())
}

func (p *paper) Merge() error {
	if p.closed {
		return failed("Merge", api.ErrStoreClosed)
	}
	if p.broken {
		return failed("Merge", api.ErrStoreBroken)
	}
	errno := p.writer.Close()
	p.writer, _ = segment.Start(p.disk, p.config.Limit, p.config.Every)
	if errno != api.OK {
		return p.breaks("Merge", errno)
	}
	errno = merge.Run(p.disk, p.config.Limit)
	p.known = map[string]fact{}
	for key, f := range foldOf(p.disk.Files()) {
		if f.record.Kind == api.Put {
			p.known[key] = f
		}
	}
	p.last = max(p.last, topOf(p.disk.Files()))
	return p.breaks("Merge", errno)
}

func (p *paper) Close() error {
	if p.closed {
		return failed("Close", api.ErrStoreClosed)
	}
	p.closed = true
	if p.broken {
		return nil
	}
	return failed("Close", p.writer.Close())
}

func (p *paper) Last() uint64 { return p.last }

// shortly is some bytes in few words: two unlike ones have unlike words, but for the same sums.
func shortly(b []byte) string {
	if len(b) <= 60 {
		return fmt.Sprintf("%q", b)
	}
	return fmt.Sprintf("%q.. (%d bytes, sum %08x)", b[:20], len(b), crc32.ChecksumIEEE(b))
}

func sayFiles(l []api.File) string {
	s := fmt.Sprintf("%d files:", len(l))
	for _, f := range l {
		s += fmt.Sprintf(" %q=%s", f.Name, shortly(f.Data))
	}
	return s
}

func sayReport(r api.Report) string {
	s := fmt.Sprintf("top %d, %d frames, %d bytes of junk;", r.Top, r.Frames, r.Junk)
	for _, a := range r.Files {
		s += fmt.Sprintf(" %q of class %d %v bad %q hint %d;", a.Name, a.Class, a.Extents, a.Bad, a.Hint)
	}
	return s
}

// sayDisk is all that a disk tells of itself.
func sayDisk(d *vdisk.Disk) string {
	return fmt.Sprintf("%s lasting %s down %v, %d acts, %d of %d bytes", sayFiles(d.Files()), sayFiles(d.Lasting()), d.Down(), d.Acts(), d.Used(), d.Capacity())
}

// sayError is an error of a store: of which call, and its number; anything else is told as what it is.
func sayError(err error) string {
	if err == nil {
		return "nil"
	}
	f, is := err.(*api.Failure)
	if !is || f == nil {
		return fmt.Sprintf("a %T", err)
	}
	errno, is := f.Err.(api.Errno)
	if !is {
		return fmt.Sprintf("%s a %T", f.Call, f.Err)
	}
	return fmt.Sprintf("%s %d", f.Call, errno)
}

// checkError wants an error of a call: OK stands for none.
func checkError(t *testing.T, err error, call string, want api.Errno) {
	t.Helper()
	if got := sayError(err); got != sayError(failed(call, want)) {
		t.Fatalf("%s: %s, want %s", call, got, sayError(failed(call, want)))
	}
}

// checkGet wants a key to have a value.
func checkGet(t *testing.T, s keeping, key, want string) {
	t.Helper()
	if value, has, err := s.Get(key); value != want || !has || err != nil {
		t.Fatalf("Get(%q) = %q, %v, %s, want %q", key, value, has, sayError(err), want)
	}
}

// checkNone wants a key to have no value, or that Get tells an error.
func checkNone(t *testing.T, s keeping, key string, want api.Errno) {
	t.Helper()
	value, has, err := s.Get(key)
	if value != "" || has {
		t.Fatalf("Get(%q) = %q, %v", key, value, has)
	}
	checkError(t, err, "Get", want)
}

func checkLast(t *testing.T, s keeping, want uint64) {
	t.Helper()
	if got := s.Last(); got != want {
		t.Fatalf("Last() = %d, want %d", got, want)
	}
}

// checkKeys wants a store to have just these keys.
func checkKeys(t *testing.T, s keeping, want ...string) {
	t.Helper()
	if got := s.Keys(); !slices.Equal(got, want) {
		t.Fatalf("Keys() = %q, want %q", got, want)
	}
}

// checkFile wants a file of a disk to have just these bytes.
func checkFile(t *testing.T, d *vdisk.Disk, name, want string) {
	t.Helper()
	if got, there := ofName(d.Files(), name); got != want || !there {
		t.Fatalf("%q has %q (%v), want %q", name, got, there, want)
	}
}

// checkMap wants a store to tell just this, in each way in which it tells.
func checkMap(t *testing.T, s keeping, want map[string]string) {
	t.Helper()
	inOrder := slices.Sorted(maps.Keys(want))
	checkKeys(t, s, inOrder...)
	var all []string
	for key, value := range s.All() {
		if value != want[key] {
			t.Fatalf("All() tells %q of %q, want %q", value, key, want[key])
		}
		all = append(all, key)
	}
	if !slices.Equal(all, inOrder) {
		t.Fatalf("All() tells of %q, want %q", all, inOrder)
	}
	for key, value := range want {
		checkGet(t, s, key, value)
	}
}

// told is all that a store tells.
func told(s keeping) string {
	text := fmt.Sprintf("last %d, keys %q;", s.Last(), s.Keys())
	for key, value := range s.All() {
		text += fmt.Sprintf(" %q is %s", key, shortly([]byte(value)))
	}
	for _, key := range append(s.Keys(), "a", "b", "none") {
		value, has, err := s.Get(key)
		text += fmt.Sprintf("; Get(%q) = %s, %v, %s", key, shortly([]byte(value)), has, sayError(err))
	}
	return text
}

// call is one that is asked of one of several stores, or of their disk.
type call struct {
	what     string
	of       int
	keys     []string
	value    string
	config   api.Config
	name, to string
	n        int
	done     bool
}

func (c call) String() string {
	switch c.what {
	case "Open":
		return fmt.Sprintf("%d = Open(%v)", c.of, c.config)
	case "Put":
		return fmt.Sprintf("%d.Put(%q, %s)", c.of, c.keys, shortly([]byte(c.value)))
	case "FailAt", "Crash":
		return fmt.Sprintf("%s(%d)", c.what, c.n)
	case "BreakAt":
		return fmt.Sprintf("BreakAt(%d, %v)", c.n, c.done)
	case "Create", "Append", "Remove", "Rename", "Truncate", "Turn":
		return fmt.Sprintf("%s(%q, %s, %d)", c.what, c.name, shortly([]byte(c.to)), c.n)
	}
	return fmt.Sprintf("%d.%s(%q)", c.of, c.what, c.keys)
}

// desk is a disk, and some stores on it (nil: none is open there).
type desk struct {
	disk   *vdisk.Disk
	stores []keeping
	open   func(d *vdisk.Disk, c api.Config) (keeping, api.Report, error)
}

func openReal(d *vdisk.Disk, c api.Config) (keeping, api.Report, error) {
	s, report, err := store.Open(d, c)
	if s == nil { // else the interface would not be nil
		return nil, report, err
	}
	return s, report, err
}

// ask does a call, and tells what came of it in words.
func (k *desk) ask(c call) string {
	if c.what == "Open" {
		s, report, err := k.open(k.disk, c.config)
		if s != nil || err == nil {
			k.stores[c.of] = s
		}
		return fmt.Sprintf("a store %v, %s, %s", s != nil, sayReport(report), sayError(err))
	}
	if answer, is := k.askDisk(c); is {
		return answer
	}
	s := k.stores[c.of]
	if s == nil {
		return "no store"
	}
	switch c.what {
	case "Put":
		return sayError(s.Put(c.keys[0], c.value))
	case "Delete":
		return sayError(s.Delete(c.keys...))
	case "Get":
		value, has, err := s.Get(c.keys[0])
		return fmt.Sprintf("%s, %v, %s", shortly([]byte(value)), has, sayError(err))
	case "Keys":
		return fmt.Sprintf("%q", s.Keys())
	case "All":
		text := "all"
		for key, value := range s.All() {
			text += fmt.Sprintf(" %q %s", key, shortly([]byte(value)))
		}
		return text
	case "Sync":
		return sayError(s.Sync())
	case "Merge":
		return sayError(s.Merge())
	case "Close":
		return sayError(s.Close())
	case "Last":
		return fmt.Sprint(s.Last())
	}
	panic(c.what)
}

// askDisk does what others do to the disk, if that is asked.
func (k *desk) askDisk(c call) (string, bool) {
	d := k.disk
	switch c.what {
	case "FailAt":
		return fmt.Sprint(d.FailAt(c.n)), true
	case "BreakAt":
		return fmt.Sprint(d.BreakAt(c.n, c.done)), true
	case "Crash":
		return fmt.Sprint(d.Crash(c.n)), true
	case "Create":
		return fmt.Sprint(d.Create(c.name)), true
	case "Append":
		return fmt.Sprint(d.Append(c.name, []byte(c.to))), true
	case "Remove":
		return fmt.Sprint(d.Remove(c.name)), true
	case "Rename":
		return fmt.Sprint(d.Rename(c.name, c.to)), true
	case "Truncate":
		return fmt.Sprint(d.Truncate(c.name, c.n)), true
	case "Turn":
		return fmt.Sprint(turn(d, c.name, c.n)), true
	}
	return "", false
}

// turn changes a byte of a file, if it has one at that place.
func turn(d *vdisk.Disk, name string, at int) api.Errno {
	data, there := ofName(d.Files(), name)
	if !there || at >= len(data) {
		return api.ErrDiskNone
	}
	if errno := d.Truncate(name, at); errno != api.OK {
		return errno
	}
	return d.Append(name, []byte(string([]byte{data[at] ^ 0x10})+data[at+1:]))
}

// newDesks are one with stores, and one with papers.
func newDesks(t *testing.T, capacity, stores int, l ...api.File) (real, onPaper *desk) {
	t.Helper()
	real = &desk{diskOf(t, capacity, l...), make([]keeping, stores), openReal}
	onPaper = &desk{diskOf(t, capacity, l...), make([]keeping, stores), openByWords}
	return real, onPaper
}

// checkCall asks both desks, and wants the same answer, and the same disk behind it.
func checkCall(t *testing.T, real, onPaper *desk, c call, earlier ...call) string {
	t.Helper()
	got, want := real.ask(c), onPaper.ask(c)
	if got != want {
		t.Fatalf("%v: %v\n  tells %s\n  want  %s", earlier, c, got, want)
	}
	if got, want := sayDisk(real.disk), sayDisk(onPaper.disk); got != want {
		t.Fatalf("behind %v: %v there is\n  %s\n  want\n  %s", earlier, c, got, want)
	}
	return got
}

// checkRun asks all calls of a run, and tells what came of them.
func checkRun(t *testing.T, capacity, stores int, l []api.File, run []call) []string {
	t.Helper()
	real, onPaper := newDesks(t, capacity, stores, l...)
	var answers []string
	for i, c := range run {
		answers = append(answers, checkCall(t, real, onPaper, c, run[:i]...))
	}
	return answers
}

// What the tests take for frames are frames, and what they take for hint files are right: else they would test nothing.
func TestTheTestsHaveFrames(t *testing.T) {
	if whole(put(1, "k", "v")) != "\xa7\x00\x00\x05\x01\x01\x01kv\x0e\x7d\x39\x08\x4c" {
		t.Errorf("the small frame is %x", whole(put(1, "k", "v")))
	}
	l := []api.Record{put(0xa7, "\xa6", "\xa7"), gone(spent, "k"), put(3, key64, strings.Repeat("\xa7", 2048))}
	var got []api.Record
	for _, f := range factsOf(files(seg1, "x"+laid(l...))) {
		got = append(got, f.record)
	}
	if !slices.Equal(got, l) {
		t.Errorf("there are %v, want %v", got, l)
	}
	_, report, errno := mend.Deep(diskOf(t, room, clean(1, l...)...))
	if errno != api.OK || len(report.Files) != 1 || report.Files[0].Hint != api.HintFine {
		t.Errorf("a hint file of the tests: %s, %d", sayReport(report), errno)
	}
}
