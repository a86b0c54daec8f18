package merge_test

import (
	"bytes"
	"fmt"
	"slices"
	"strings"
	"testing"

	"salvor/api"
	"salvor/merge"
	"salvor/plan"
)

// A disk with many records, which become the smallest segments, more than a disk is made with, and the time does not grow with the square of their number.
func TestManySegments(t *testing.T) {
	const count = 19000
	value := strings.Repeat("v", 40)
	d := diskOf(t, api.MaxDisk)
	var s bytes.Buffer
	for n := range count {
		s.WriteString(whole(put(uint64(n+1), fmt.Sprintf("%05d", n), value)))
	}
	d.Create(seg2)
	d.Append(seg2, s.Bytes())
	for n := range 1000 { // numbers that are taken
		d.Create(fmt.Sprintf("seg-%08x.hint", 2*n+1))
	}
	earlier := d.Acts()
	if errno := merge.Run(d, 64); errno != api.OK || d.Acts()-earlier != 8*count+1 || len(d.Names()) != 2*count+1000 {
		t.Fatalf("Run: %d, %d acts, %d files", errno, d.Acts()-earlier, len(d.Names()))
	}
	for n := range count { // every second number, as long as there are such files
		number := 2*n + 4
		if number > 2000 {
			number = n + 1002
		}
		if size, errno := d.Size(fmt.Sprintf("seg-%08x.log", number)); errno != api.OK || size == 0 || size > 64 {
			t.Fatalf("the segment %d: %d bytes, %d", number, size, errno)
		}
	}
	acts := d.Acts()
	if errno := merge.Run(d, 64); errno != api.OK || d.Acts() != acts {
		t.Fatalf("once more: %d, %d acts", errno, d.Acts()-acts)
	}
	if errno := merge.Run(d, api.MaxLimit); errno != api.OK || len(d.Names()) != 1000+2*2 {
		t.Fatalf("of all of them: %d, %d files", errno, len(d.Names()))
	}
	size, errno := d.Size(seg2) // whose number has become free
	rest, restErrno := d.Size(fmt.Sprintf("seg-%08x.log", count+1002))
	if errno != api.OK || restErrno != api.OK || size > api.MaxLimit || size < api.MaxLimit-64 || size+rest != s.Len() {
		t.Errorf("the first segment: %d bytes, %d, the second one: %d, %d", size, errno, rest, restErrno)
	}
}

// A great segment of few keys, overwritten again and again, newest first and oldest first; with Deletes of all of them ahead, or behind.
func TestManyRecordsOfFewKeys(t *testing.T) {
	const count, keys = 90000, 10
	var l []api.Record
	for n := range count {
		l = append(l, put(uint64(n+1), fmt.Sprint(n%keys), "v"))
	}
	for n := range keys {
		l = append(l, gone(uint64(count+n+1), fmt.Sprint(n, "!")), gone(uint64(count+keys+n+1), fmt.Sprint(n)))
	}
	want := l[len(l)-2*keys:]
	want = slices.DeleteFunc(slices.Clone(want), func(r api.Record) bool { return strings.HasSuffix(r.Key, "!") })
	slices.SortFunc(want, func(x, y api.Record) int { return int(x.LSN) - int(y.LSN) })
	for range 2 {
		var s bytes.Buffer
		for _, r := range l {
			s.WriteString(whole(r))
		}
		files := []api.File{{Name: seg1, Data: s.Bytes()}}
		p, errno := merge.Plan(files, 1000, api.MaxDisk)
		if errno != api.OK || len(p.Steps) != 7 || p.Report.Frames != keys || p.Report.Top != count+2*keys {
			t.Fatalf("Plan: %d, %d steps, %s", errno, len(p.Steps), sayReport(p.Report))
		}
		if kept := merge.Keep(files...); !slices.Equal(kept, want) {
			t.Fatalf("kept are %v, want %v", kept, want)
		}
		slices.Reverse(l)
	}
}

// Many old segments of one record each, with hint files and without: they become one.
func TestManyOldSegments(t *testing.T) {
	const count = 20000
	var l []api.File
	for n := range count {
		r := put(uint64(count-n), fmt.Sprintf("%05d", n), "")
		if n%2 == 0 {
			l = append(l, clean(n+1, r)...)
		} else {
			l = append(l, clean(n+1, r)[0])
		}
	}
	p, errno := merge.Plan(l, api.MaxLimit, api.MaxDisk)
	if errno != api.OK || len(p.Steps) != 6+count+count/2 || len(p.Report.Files) != count || p.Report.Frames != count {
		t.Fatalf("Plan: %d, %d steps, %d accounts", errno, len(p.Steps), len(p.Report.Files))
	}
	now, errno := plan.Apply(l, p.Steps...)
	if errno != api.OK || len(now) != 2 || now[1].Name != fmt.Sprintf("seg-%08x.log", count+1) {
		t.Fatalf("%d, %d files", errno, len(now))
	}
	if again, errno := merge.Plan(now, api.MaxLimit, sumOf(now)); errno != api.OK || len(again.Steps) > 0 {
		t.Errorf("once more: %d, %d steps", errno, len(again.Steps))
	}
}
