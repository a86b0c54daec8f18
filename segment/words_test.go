package segment_test

import (
	"encoding/binary"
	"fmt"
	"hash/crc32"
	"math/rand"
	"slices"
	"strings"
	"testing"

	"salvor/api"
	"salvor/segment"
	"salvor/vdisk"
)

func source() *rand.Rand { return rand.New(rand.NewSource(9)) }

func pick[T any](r *rand.Rand, l ...T) T { return l[r.Intn(len(l))] }

func put(lsn uint64, key, value string) api.Record {
	return api.Record{LSN: lsn, Kind: api.Put, Key: key, Value: value}
}

func gone(lsn uint64, key string) api.Record {
	return api.Record{LSN: lsn, Kind: api.Delete, Key: key}
}

// made once, since frames are written again and again
var (
	castagnoli = crc32.MakeTable(crc32.Castagnoli)
	escaper    = strings.NewReplacer("\xa7", "\xa6\x01", "\xa6", "\xa6\x00")
)

// said are records in few words.
func said(l ...api.Record) string {
	var words []string
	for _, r := range l {
		words = append(words, fmt.Sprintf("%d %d %.20q %.20q", r.LSN, r.Kind, r.Key, r.Value))
	}
	return strings.Join(words, ", ")
}

func sumByWords(s string) uint32 { return crc32.Checksum([]byte(s), castagnoli) }

// digits are the so many groups of seven bits of a number, the highest first.
func digits(n uint64, count int) string {
	b := make([]byte, count)
	for i := range b {
		b[i] = byte(n >> (7 * (count - 1 - i)) & 0x7f)
	}
	return string(b)
}

func varint(n uint64) string { return string(binary.AppendUvarint(nil, n)) }

// framed lays what a frame has around a body.
func framed(body string) string {
	escaped := escaper.Replace(body)
	inner := digits(uint64(len(escaped)), 3) + escaped
	return "\xa7" + inner + digits(uint64(sumByWords(inner)), 5)
}

// whole is the frame of a record that may be.
func whole(r api.Record) string {
	if r.Kind == api.Delete {
		return framed("\x02" + varint(r.LSN) + r.Key)
	}
	return framed("\x01" + varint(r.LSN) + varint(uint64(len(r.Key))) + r.Key + r.Value)
}

// hintFrame is one that points to a record, footFrame an ending.
func hintFrame(lsn uint64, key string) string {
	return framed("\x03" + varint(lsn) + "\x01" + varint(0) + varint(14) + key)
}

func footFrame(count uint64) string {
	return framed("\x04" + varint(count) + varint(14) + varint(1) + varint(77))
}

// refusedByWords is why a record may not be, in the order of frame's chapter.
func refusedByWords(r api.Record) api.Errno {
	switch {
	case r.Kind == api.Foot: // an ending that may be, but for the record beside it
		return api.ErrFrameArg
	case r.Kind != api.Put && r.Kind != api.Delete: // of a Hint there is no pointer
		return api.ErrFrameKind
	case r.LSN == 0:
		return api.ErrFrameLSN
	case len(r.Key) < 1 || len(r.Key) > 64:
		return api.ErrFrameKey
	case len(r.Value) > 2048, r.Kind == api.Delete && r.Value != "":
		return api.ErrFrameValue
	}
	return api.OK
}

// sized is a Put whose frame has so many bytes.
func sized(t *testing.T, lsn uint64, size int) api.Record {
	t.Helper()
	r := put(lsn, "k", "")
	r.Value = strings.Repeat("v", size-len(whole(r)))
	if len(whole(r)) != size || refusedByWords(r) != api.OK {
		t.Fatalf("there is no such frame of %d bytes", size)
	}
	return r
}

func segmentName(number uint32) string { return fmt.Sprintf("seg-%08x.log", number) }

// freshByWords is the least number that no segment, hint file, or temp file of one of these has.
func freshByWords(names []string) uint32 {
	for n := uint32(1); ; n++ {
		log, hint := segmentName(n), fmt.Sprintf("seg-%08x.hint", n)
		taken := func(name string) bool {
			return strings.TrimSuffix(name, ".tmp") == log || strings.TrimSuffix(name, ".tmp") == hint
		}
		if !slices.ContainsFunc(names, taken) {
			return n
		}
	}
}

// paper is a writer as the chapter's words have it.
type paper struct {
	disk                    *vdisk.Disk
	limit, every            int
	closed, broken          bool
	atHand                  uint32
	laid, unsynced, records int
}

// heard is what an act answers: two of the errors break the writer.
func (p *paper) heard(errno api.Errno) api.Errno {
	p.broken = p.broken || errno == api.ErrDiskIO || errno == api.ErrDiskDown
	return errno
}

func (p *paper) shut() bool { return p.closed || p.broken }

func (p *paper) sync() api.Errno {
	errno := p.heard(p.disk.Sync(segmentName(p.atHand)))
	if errno == api.OK {
		p.unsynced, p.records = 0, 0
	}
	return errno
}

func (p *paper) Put(r api.Record) (api.Place, api.Errno) {
	none := api.Place{}
	if p.shut() {
		return none, api.ErrSegmentShut
	}
	if errno := refusedByWords(r); errno != api.OK {
		return none, errno
	}
	size := len(whole(r))
	if p.atHand == 0 || p.laid > 0 && p.laid+size > p.limit {
		if p.unsynced > 0 {
			if errno := p.sync(); errno != api.OK {
				return none, errno
			}
		}
		number := freshByWords(p.disk.Names())
		if errno := p.heard(p.disk.Create(segmentName(number))); errno != api.OK {
			return none, errno
		}
		p.atHand, p.laid, p.unsynced = number, 0, 0
	}
	if errno := p.heard(p.disk.Append(segmentName(p.atHand), []byte(whole(r)))); errno != api.OK {
		return none, errno
	}
	p.laid += size
	p.unsynced += size
	p.records++
	if p.every != 0 && p.records == p.every {
		if errno := p.sync(); errno != api.OK {
			return none, errno
		}
	}
	return api.Place{Segment: p.atHand, At: p.laid - size, Len: size}, api.OK
}

func (p *paper) Sync() api.Errno {
	if p.shut() {
		return api.ErrSegmentShut
	}
	if p.unsynced > 0 {
		return p.sync()
	}
	return api.OK
}

func (p *paper) Close() api.Errno {
	errno := p.Sync()
	p.closed = true
	return errno
}

func (p *paper) Now() (uint32, int) { return p.atHand, p.laid }

// made is a disk that may be.
func made(t *testing.T, capacity int, files ...api.File) *vdisk.Disk {
	t.Helper()
	d, errno := vdisk.New(capacity, files...)
	if d == nil || errno != api.OK {
		t.Fatalf("New(%d, %d files) = %v, %d", capacity, len(files), d, errno)
	}
	return d
}

func started(t *testing.T, d *vdisk.Disk, limit, every int) *segment.Writer {
	t.Helper()
	w, errno := segment.Start(d, limit, every)
	if w == nil || errno != api.OK {
		t.Fatalf("Start(%d, %d) = %v, %d", limit, every, w, errno)
	}
	return w
}

func file(name, data string) api.File { return api.File{Name: name, Data: []byte(data)} }

// row is what a disk has, as a text: of each file its name, its bytes, and ahead of a | those that last.
func row(d *vdisk.Disk) string {
	var l []string
	lasting := d.Lasting()
	for i, f := range d.Files() {
		last := len(lasting[i].Data)
		l = append(l, fmt.Sprintf("%s=%x|%x", f.Name, f.Data[:last], f.Data[last:]))
	}
	return strings.Join(l, "\n")
}

// holds is a file for checkHas: so many of its frames last.
type holds struct {
	name    string
	frames  []api.Record
	lasting int
}

func log(number uint32, lasting int, frames ...api.Record) holds {
	return holds{segmentName(number), frames, lasting}
}

func (h holds) String() string {
	var parts [2]string
	for i, r := range h.frames {
		if i < h.lasting {
			parts[0] += whole(r)
		} else {
			parts[1] += whole(r)
		}
	}
	return fmt.Sprintf("%s=%x|%x", h.name, parts[0], parts[1])
}

// checkHas holds what a disk has, and how many acts there were.
func checkHas(t *testing.T, d *vdisk.Disk, acts int, want ...holds) {
	t.Helper()
	var rows []string
	for _, h := range want {
		rows = append(rows, h.String())
	}
	if got, want := row(d), strings.Join(rows, "\n"); got != want {
		t.Errorf("it has\n%s\nwant\n%s", got, want)
	}
	if d.Acts() != acts {
		t.Errorf("there were %d acts, want %d", d.Acts(), acts)
	}
}

func checkErrno(t *testing.T, what string, got, want api.Errno) {
	t.Helper()
	if got != want {
		t.Errorf("%s tells %d, want %d", what, got, want)
	}
}

// checkPut wants a record to be written at a place.
func checkPut(t *testing.T, w *segment.Writer, r api.Record, number uint32, at int) {
	t.Helper()
	want := api.Place{Segment: number, At: at, Len: len(whole(r))}
	if got, errno := w.Put(r); got != want || errno != api.OK {
		t.Errorf("Put(%s) = %v, %d, want %v", said(r), got, errno, want)
	}
}

// checkNoPut wants an error, and no place.
func checkNoPut(t *testing.T, w *segment.Writer, r api.Record, want api.Errno) {
	t.Helper()
	if got, errno := w.Put(r); got != (api.Place{}) || errno != want {
		t.Errorf("Put(%s) = %v, %d, want nothing and %d", said(r), got, errno, want)
	}
}

func checkNow(t *testing.T, w *segment.Writer, number uint32, size int) {
	t.Helper()
	if n, k := w.Now(); n != number || k != size {
		t.Errorf("Now() = %d, %d, want %d, %d", n, k, number, size)
	}
}

func checkRead(t *testing.T, d *vdisk.Disk, p api.Place, want api.Record, wanted api.Errno) {
	t.Helper()
	if got, errno := segment.Read(d, p); got != want || errno != wanted {
		t.Errorf("Read(%v) = %s, %d, want %s, %d", p, said(got), errno, said(want), wanted)
	}
}

// checkShut wants a writer to be shut, and to leave the disk alone.
func checkShut(t *testing.T, d *vdisk.Disk, w *segment.Writer) {
	t.Helper()
	acts, has := d.Acts(), row(d)
	number, size := w.Now()
	for range 2 {
		checkNoPut(t, w, put(9, "k", "v"), api.ErrSegmentShut)
		checkNoPut(t, w, api.Record{}, api.ErrSegmentShut)
		checkErrno(t, "Sync of a shut one", w.Sync(), api.ErrSegmentShut)
		checkErrno(t, "Close of a shut one", w.Close(), api.ErrSegmentShut)
		checkNow(t, w, number, size)
	}
	if d.Acts() != acts || row(d) != has {
		t.Errorf("a shut writer asked for %d acts, and left\n%s", d.Acts()-acts, row(d))
	}
}
