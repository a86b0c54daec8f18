package mend_test

import (
	"bytes"
	"fmt"
	"testing"

	"salvor/api"
	"salvor/mend"
	"salvor/vdisk"
)

// bulk is a disk with as many bytes as one can have, with one segment.
func bulk(t *testing.T, data []byte) *vdisk.Disk {
	t.Helper()
	return diskOf(t, api.MaxDisk, api.File{Name: seg1, Data: data})
}

// A great segment of one key, of which each record is older than the one ahead: taken in one by one, each would have to make room for itself ahead of all others.
func TestManyRecordsOfOneKey(t *testing.T) {
	const count = 100000
	var s bytes.Buffer
	for n := range count {
		s.WriteString(whole(put(uint64(count-n), "k", "")))
	}
	d := bulk(t, s.Bytes())
	dir, report, errno := mend.Deep(d)
	if errno != api.OK || report.Frames != count || report.Top != count || d.Acts() != 4 {
		t.Fatalf("Deep: %d, %d frames, top %d, %d acts", errno, report.Frames, report.Top, d.Acts())
	}
	has(t, dir, put(count, "k", ""), 1, 0)
	dir, _, errno = mend.Deep(d)
	if errno != api.OK || d.Acts() != 4 {
		t.Fatalf("once more: %d, %d acts", errno, d.Acts())
	}
	has(t, dir, put(count, "k", ""), 1, 0)
}

// A disk that is full to the last byte, of records among which an ending stands, so that no hint file is to be written.
func TestAFullDisk(t *testing.T) {
	var s bytes.Buffer
	s.WriteString(foot)
	count := 0
	for {
		next := whole(put(uint64(count+1), fmt.Sprintf("%05d", count%50000), fmt.Sprint(count)))
		if s.Len()+len(next) >= api.MaxDisk { // a byte at least is left for another file
			break
		}
		s.WriteString(next)
		count++
	}
	used := s.Len()
	d := bulk(t, s.Bytes())
	d.Create("other")
	d.Append("other", make([]byte, api.MaxDisk-used))
	acts := d.Acts()
	dir, report, errno := mend.Deep(d)
	if errno != api.OK || report.Frames != count+1 || report.Junk != 0 || d.Acts() != acts || d.Used() != api.MaxDisk {
		t.Fatalf("Deep: %d, %d frames, %d bytes of junk, %d acts", errno, report.Frames, report.Junk, d.Acts()-acts)
	}
	if keys := dir.Keys(); len(keys) != min(count, 50000) || dir.Top() != uint64(count) {
		t.Errorf("%d keys, top %d", len(keys), dir.Top())
	}
	for n := count - 50; n < count; n++ {
		r := put(uint64(n+1), fmt.Sprintf("%05d", n%50000), fmt.Sprint(n))
		if s, errno := dir.Get(r.Key); errno != api.OK || s.LSN != r.LSN || s.Body != bodyByWords(r) {
			t.Fatalf("of %q it tells %+v, %d", r.Key, s, errno)
		}
	}
	// junk behind the records, for which there is no room elsewhere
	d.Truncate("other", 0)
	d.Append(seg1, make([]byte, api.MaxDisk-used))
	before, earlier := d.Acts(), d.Files()
	if dir, _, errno := mend.Deep(d); dir != nil || errno != api.ErrPlanFull || d.Acts() != before || !sameFiles(d.Files(), earlier) {
		t.Errorf("without room: %d, %d acts", errno, d.Acts()-before)
	}
}

// Many segments, more than a disk is made with: each with junk, each with a record of a key of its own and one of a key that all have.
func TestManySegments(t *testing.T) {
	const count = 5000
	d := diskOf(t, api.MaxDisk)
	for n := range count {
		name := fmt.Sprintf("seg-%08x.log", n+1)
		d.Create(name)
		d.Append(name, []byte("x"+laid(put(uint64(n%100+1), "k", fmt.Sprint(n)), put(1, fmt.Sprint(n), ""))))
	}
	earlier := d.Acts()
	dir, report, errno := mend.Deep(d)
	if errno != api.OK || len(report.Files) != count || report.Junk != count || report.Frames != 2*count || d.Acts()-earlier != 12*count || len(d.Names()) != 3*count {
		t.Fatalf("Deep: %d, %d accounts, %d bytes of junk, %d frames, %d acts, %d files", errno, len(report.Files), report.Junk, report.Frames, d.Acts()-earlier, len(d.Names()))
	}
	has(t, dir, put(100, "k", "999"), 1000, 0) // of those with the LSN 100 the one whose body is greatest
	if keys := dir.Keys(); len(keys) != count+1 {
		t.Errorf("%d keys", len(keys))
	}
	if _, _, errno := mend.Deep(d); errno != api.OK || d.Acts()-earlier != 12*count {
		t.Errorf("once more: %d, %d acts", errno, d.Acts()-earlier)
	}
}

func TestRunOfManySteps(t *testing.T) {
	const count = 200000
	d := diskOf(t, 10)
	var steps []api.Step
	for range count {
		steps = append(steps, write("a", "xy"), sync("a"), truncate("a", 1), rename("a", "b"), remove("b"))
	}
	if n, errno := mend.Run(d, steps...); n != 5*count || errno != api.OK || d.Acts() != 6*count || len(d.Names()) > 0 {
		t.Errorf("Run = %d, %d, %d acts, %s", n, errno, d.Acts(), sayFiles(d.Files()))
	}
	d.FailAt(6*count - 1)
	if n, errno := mend.Run(d, steps...); n != 5*count-2 || errno != api.ErrDiskIO || d.Acts() != 12*count-1 || !sameFiles(d.Files(), files("a", "x")) {
		t.Errorf("Run whose act but one fails = %d, %d, %d acts, %s", n, errno, d.Acts(), sayFiles(d.Files()))
	}
}
