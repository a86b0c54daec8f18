package segment_test

import (
	"fmt"
	"math"
	"math/rand"
	"slices"
	"strings"
	"testing"

	"salvor/api"
	"salvor/segment"
	"salvor/vdisk"
)

// scene is a writer, and what is put and synced by it: a record of nothing stands for a Sync.
type scene struct {
	limit, every int
	calls        []api.Record
}

// acted is what came of a scene up to the first error.
type acted struct {
	asked, answered []api.Record
	places          []api.Place
	synced          int // how many of those that were answered are said to last
	errno           api.Errno
}

// play does a scene by a new writer.
func play(t *testing.T, d *vdisk.Disk, s scene) acted {
	t.Helper()
	w := started(t, d, s.limit, s.every)
	var a acted
	for _, r := range s.calls {
		if r == (api.Record{}) {
			if a.errno = w.Sync(); a.errno != api.OK {
				return a
			}
			a.synced = len(a.answered)
			continue
		}
		a.asked = append(a.asked, r)
		var p api.Place
		if p, a.errno = w.Put(r); a.errno != api.OK {
			return a
		}
		if p.At == 0 { // another segment was begun
			a.synced = len(a.answered)
		}
		a.answered, a.places = append(a.answered, r), append(a.places, p)
		if s.every > 0 && len(a.answered)-a.synced == s.every {
			a.synced = len(a.answered)
		}
	}
	return a
}

// segments are the bytes of all files, by names; numbers rise where no file is taken away.
func segments(l []api.File) string {
	s := ""
	for _, f := range l {
		s += string(f.Data)
	}
	return s
}

func frames(l []api.Record) string {
	s := ""
	for _, r := range l {
		s += whole(r)
	}
	return s
}

// checkFirst wants bytes to be the first frames of some records and at most the beginning of one more, and tells how many are whole.
func checkFirst(t *testing.T, bytes string, records []api.Record) int {
	t.Helper()
	if !strings.HasPrefix(frames(records), bytes) {
		t.Fatalf("there is %x, which is not how these begin: %s", bytes, said(records...))
	}
	size := 0
	for i, r := range records {
		if size += len(whole(r)); size > len(bytes) {
			return i
		}
	}
	return len(records)
}

// checkLeft wants that to be left which may be left, behind a crash.
func checkLeft(t *testing.T, d *vdisk.Disk, a acted) int {
	t.Helper()
	count := checkFirst(t, segments(d.Files()), a.asked)
	if count < a.synced {
		t.Fatalf("%d records are left, and %d were synced", count, a.synced)
	}
	for i, p := range a.places {
		r, errno := segment.Read(d, p)
		if i < count && (r != a.answered[i] || errno != api.OK) {
			t.Fatalf("the record %d of %d that are left: Read(%v) = %s, %d", i, count, p, said(r), errno)
		}
		if i >= count && errno == api.OK {
			t.Fatalf("the record %d, beyond %d that are left: Read(%v) = %s", i, count, p, said(r))
		}
	}
	return count
}

// keeps are how many bytes a crash may keep, to begin with.
var keeps = []int{math.MinInt, 0, 1, 13, 20, 21, 60, 100, math.MaxInt}

// checkCrashes has a scene end at each of its acts, in each way, with each crash; last one that nothing ended.
func checkCrashes(t *testing.T, s scene) {
	t.Helper()
	d := made(t, 100000)
	if a := play(t, d, s); a.errno != api.OK {
		t.Fatalf("with nothing armed: %d", a.errno)
	}
	all := d.Acts()
	for n := 1; n <= all+1; n++ {
		for _, f := range faults {
			for _, keep := range keeps {
				d := made(t, 100000)
				f.arm(d, n)
				a := play(t, d, s)
				if (a.errno != api.OK) != (n <= all) || n <= all && (a.errno != f.want || d.Acts() != n) {
					t.Fatalf("an act %d that %s: %d, %d acts", n, f.what, a.errno, d.Acts())
				}
				d.Crash(keep)
				count := checkLeft(t, d, a)
				if keep == math.MaxInt && count < len(a.answered) {
					t.Fatalf("%d records are left of %d, and nothing was lost", count, len(a.answered))
				}
			}
		}
	}
}

// someCalls are records of many lengths, and a Sync here and there.
func someCalls(t *testing.T, r *rand.Rand, count, syncs int) []api.Record {
	t.Helper()
	var l []api.Record
	for i := range count {
		lsn := uint64(i + 1)
		l = append(l, pick(r, sized(t, lsn, 13+r.Intn(40)), sized(t, lsn, 20), gone(lsn, "k"), put(lsn, "\xa7", "\xa6\xa7"), sized(t, lsn, pick(r, 63, 64, 65, 66, 90))))
		if r.Intn(10) < syncs {
			l = append(l, api.Record{})
		}
	}
	return l
}

func TestCrashesBehindAnyAct(t *testing.T) {
	r := source()
	for _, limit := range []int{64, 100, 1048576} {
		for _, every := range []int{0, 1, 2, 3, 5} {
			for _, syncs := range []int{0, 2, 6} {
				checkCrashes(t, scene{limit, every, someCalls(t, r, 12, syncs)})
			}
		}
	}
}

// Each number of bytes that can be lost, of a scene that ends behind its last act.
func TestCrashesThatKeepAnyNumberOfBytes(t *testing.T) {
	r := source()
	for _, s := range []scene{{1048576, 0, someCalls(t, r, 8, 0)}, {1048576, 5, someCalls(t, r, 8, 0)}, {100, 0, someCalls(t, r, 8, 1)}} {
		d := made(t, 100000)
		a := play(t, d, s)
		total := len(segments(d.Files()))
		counts := map[int]int{}
		for keep := range total + 1 {
			d := made(t, 100000)
			play(t, d, s)
			d.Crash(keep)
			counts[checkLeft(t, d, a)]++
		}
		for count := a.synced; count <= len(a.answered); count++ {
			if counts[count] == 0 {
				t.Errorf("limit %d, every %d: no crash left %d records of %d", s.limit, s.every, count, len(a.answered))
			}
		}
	}
}

// Crash behind crash on one disk: each writer's first records are left, and no earlier one's are touched any more.
func TestCrashesOneBehindTheOther(t *testing.T) {
	r := source()
	for range 300 {
		d := made(t, 100000)
		before := ""
		for range 5 {
			s := scene{pick(r, 64, 100, 200), r.Intn(4), someCalls(t, r, r.Intn(8), r.Intn(5))}
			pick(r, faults...).arm(d, 1+r.Intn(15))
			a := play(t, d, s)
			d.Crash(r.Intn(80))
			now := segments(d.Files())
			if !strings.HasPrefix(now, before) {
				t.Fatalf("what was left by a crash was\n%x, and is\n%x", before, now)
			}
			if count := checkFirst(t, now[len(before):], a.asked); count < a.synced {
				t.Fatalf("%d records are left, and %d were synced", count, a.synced)
			}
			before = now
		}
	}
}

// At any moment all bytes last of each segment but the one at hand.
func TestWhatLastsAtAnyMoment(t *testing.T) {
	r := source()
	for range 60 {
		s := scene{pick(r, 64, 100, 200), r.Intn(5), someCalls(t, r, 15, r.Intn(4))}
		d := made(t, 100000)
		play(t, d, s)
		for n := 1; n <= d.Acts(); n++ {
			for _, f := range faults {
				d := made(t, 100000)
				f.arm(d, n)
				play(t, d, s)
				files, lasting := d.Files(), d.Lasting()
				for i := range max(len(files), 1) - 1 {
					if len(files[i].Data) != len(lasting[i].Data) {
						t.Fatalf("behind an act %d that %s: of %s, which is not at hand, %d bytes of %d last", n, f.what, files[i].Name, len(lasting[i].Data), len(files[i].Data))
					}
				}
			}
		}
	}
}

// Of the segment at hand all lasts but fewer than every records, behind each call that came through.
func TestHowMuchDoesNotLast(t *testing.T) {
	r := source()
	for range 200 {
		every := 1 + r.Intn(6)
		d := made(t, 100000)
		w := started(t, d, pick(r, 64, 100, 1000), every)
		var records []api.Record
		most := 0
		for _, x := range someCalls(t, r, 30, 0) {
			if _, errno := w.Put(x); errno != api.OK {
				t.Fatalf("Put(%s): %d", said(x), errno)
			}
			records = append(records, x)
			count := checkFirst(t, segments(d.Lasting()), records)
			if lasting(d) != len(frames(records[:count])) || len(records)-count >= every {
				t.Fatalf("every %d: of %d records %d last, in %d bytes", every, len(records), count, lasting(d))
			}
			most = max(most, len(records)-count)
		}
		if most == 0 && every > 1 {
			t.Errorf("every %d: all records lasted at once", every)
		}
	}
}

// What was put can be read where it was told; segments are its frames in their order, each of one frame or not more than limit bytes.
func TestWhatSegmentsHave(t *testing.T) {
	r := source()
	for range 300 {
		limit := pick(r, 64, 65, 100, 200, 1000)
		d := made(t, 100000)
		a := play(t, d, scene{limit, r.Intn(4), someCalls(t, r, 40, r.Intn(3))})
		if got := segments(d.Files()); got != frames(a.asked) || a.errno != api.OK {
			t.Fatalf("the segments have %x, want %x; %d", got, frames(a.asked), a.errno)
		}
		in := map[string]int{}
		for i, p := range a.places {
			checkRead(t, d, p, a.answered[i], api.OK)
			in[segmentName(p.Segment)]++
		}
		for _, f := range d.Files() {
			if in[f.Name] != 1 && len(f.Data) > limit || in[f.Name] == 0 {
				t.Fatalf("limit %d: %s has %d frames, %d bytes", limit, f.Name, in[f.Name], len(f.Data))
			}
		}
	}
}

// The fingerprint of a segment tells its frames.
func TestPrintOfWhatWasWritten(t *testing.T) {
	r := source()
	d := made(t, 100000)
	a := play(t, d, scene{200, 0, someCalls(t, r, 60, 0)})
	for _, f := range d.Files() {
		in := 0
		for _, p := range a.places {
			if segmentName(p.Segment) == f.Name {
				in++
			}
		}
		checkPrint(t, string(f.Data), in)
	}
}

// The crashes of the tests above come to all that can be: else they would test little.
func TestTheCrashesLeaveEverything(t *testing.T) {
	r := source()
	s := scene{100, 3, someCalls(t, r, 12, 2)}
	var came []string
	for n := 1; n <= 40; n++ {
		for _, f := range faults {
			for _, keep := range keeps {
				d := made(t, 100000)
				f.arm(d, n)
				a := play(t, d, s)
				d.Crash(keep)
				left := segments(d.Files())
				count := checkFirst(t, left, a.asked)
				came = append(came, fmt.Sprintf("whole %v, all that were answered %v, one more %v", len(left) == len(frames(a.asked[:count])), count >= len(a.answered), count > len(a.answered)))
			}
		}
	}
	slices.Sort(came)
	if got := slices.Compact(came); len(got) != 5 {
		t.Errorf("%d kinds: %q", len(got), got)
	}
}
