package mend_test

import (
	"fmt"
	"math"
	"math/rand"
	"slices"
	"strings"
	"testing"

	"salvor/api"
	"salvor/vdisk"
)

// anyStep is a step of any kind, most of which can be done to files of few names.
func anyStep(r *rand.Rand) api.Step {
	name := func() string { return pick(r, "a", "b", "c", "a", "b", "c", "d", "e", "", name60, name61) }
	return api.Step{
		Op:   pick[api.Op](r, 1, 2, 3, 4, 5, 2, 4, 5, 2, 3),
		Name: name(), To: name(), N: r.Intn(6) - 1, Data: []byte(strings.Repeat("d", r.Intn(6))),
	}
}

// anyRow is steps of which most can be done, one behind the other.
func anyRow(r *rand.Rand, d *vdisk.Disk) []api.Step {
	var steps []api.Step
	for range r.Intn(12) {
		s := anyStep(r)
		if _, errno := runByWords(d, s); errno == api.OK || r.Intn(10) == 0 {
			steps = append(steps, s)
		}
	}
	if r.Intn(15) == 0 {
		steps = slices.Insert(steps, r.Intn(len(steps)+1), api.Step{Op: pick(r, noOps...), Name: "a"})
	}
	return steps
}

// anyDisk tells how a disk is made that has few files, of which some bytes do not last.
func anyDisk(r *rand.Rand) func(t *testing.T) *vdisk.Disk {
	var lasting, behind []api.File
	for _, name := range []string{"a", "b", "c", name60} {
		if r.Intn(3) > 0 {
			lasting = append(lasting, files(name, strings.Repeat("x", r.Intn(6)))...)
			behind = append(behind, files(name, strings.Repeat("y", r.Intn(3)))...)
		}
	}
	capacity := sumOf(lasting) + sumOf(behind) + r.Intn(20)
	return func(t *testing.T) *vdisk.Disk {
		t.Helper()
		return unsynced(t, diskOf(t, capacity, lasting...), behind...)
	}
}

// Rows of steps on any disk, with any fault; then others, on what came of that.
func TestRunOfManyRows(t *testing.T) {
	r := source()
	answers := map[api.Errno]int{}
	for range 20000 {
		fresh := anyDisk(r)
		one, other, scratch := fresh(t), fresh(t), fresh(t)
		for range 3 {
			steps := anyRow(r, scratch)
			if r.Intn(2) == 0 {
				f, n := pick(r, faults...), 1+r.Intn(8)
				f.arm(one, n)
				f.arm(other, n)
			}
			_, errno := checkRun(t, one, other, steps...)
			answers[errno]++
			if r.Intn(4) == 0 {
				keep := r.Intn(6) - 1
				one.Crash(keep)
				other.Crash(keep)
			}
		}
	}
	for _, errno := range []api.Errno{api.OK, api.ErrPlanArg, api.ErrDiskArg, api.ErrDiskNone, api.ErrDiskThere, api.ErrDiskFull, api.ErrDiskIO, api.ErrDiskDown} {
		if answers[errno] < 300 {
			t.Errorf("not everything was seen: %v", answers)
		}
	}
}

// Every row of up to three steps, of as few names as make a difference.
func TestRunOfEveryShortRow(t *testing.T) {
	all := []api.Step{{Op: 0, Name: "a"}, {Op: 6, Name: "a"}}
	for _, name := range []string{"a", "b", "c"} {
		all = append(all, remove(name), write(name, "www"), write(name, ""), sync(name), truncate(name, 1))
		for _, to := range []string{"a", "b", "c"} {
			all = append(all, rename(name, to))
		}
	}
	fresh := func() *vdisk.Disk {
		return unsynced(t, diskOf(t, 8, files("a", "1", "b", "22")...), files("b", "33")...)
	}
	var lay func(steps []api.Step, left int)
	lay = func(steps []api.Step, left int) {
		checkRun(t, fresh(), fresh(), steps...)
		if left == 0 {
			return
		}
		for _, s := range all {
			lay(append(slices.Clone(steps), s), left-1)
		}
	}
	lay(nil, 3)
}

func anyText(r *rand.Rand, count int) string {
	const telling = "\x00\x01\x02\x03\x04\x05\x7f\x80\xa5\xa6\xa7\xa8"
	b := make([]byte, count)
	for i := range b {
		b[i] = pick(r, telling[r.Intn(len(telling))], byte(r.Intn(256)))
	}
	return string(b)
}

func anyRecord(r *rand.Rand) api.Record {
	lsn := pick(r, 1, 0xa6, 0xa7, 1<<64-1, 1+uint64(r.Intn(5)), 1+uint64(r.Intn(5)), 1+uint64(r.Intn(5)))
	key := pick(r, "a", "b", "c", anyText(r, 1+r.Intn(4)))
	if r.Intn(3) == 0 {
		return gone(lsn, key)
	}
	return put(lsn, key, pick(r, "", "v", "w", anyText(r, r.Intn(30))))
}

func anyRecords(r *rand.Rand, count int) []api.Record {
	var l []api.Record
	for range count {
		l = append(l, anyRecord(r))
	}
	return l
}

// spoilt is a text to which something has happened.
func spoilt(r *rand.Rand, s string) string {
	other := pick(r, whole(anyRecord(r)), foot, pointer, "x")
	if s == "" {
		return other
	}
	at := r.Intn(len(s))
	switch r.Intn(6) {
	case 0:
		return s[:at]
	case 1:
		return s[at:]
	case 2:
		return s[:at] + anyText(r, 1+r.Intn(3)) + s[at:]
	case 3:
		return s[:at] + string([]byte{s[at] ^ 1<<r.Intn(8)}) + s[at+1:]
	case 4:
		return s + other
	}
	return other + s
}

func perhapsSpoilt(r *rand.Rand, s string) string {
	for r.Intn(2) == 0 {
		s = spoilt(r, s)
	}
	return s
}

// forged is a hint file for these records that lies in one thing.
func forged(r *rand.Rand, l []api.Record) string {
	p := pointersTo(l...)
	if len(p) > 0 {
		i := r.Intn(len(p))
		switch r.Intn(3) {
		case 0:
			p[i].LSN = p[i].LSN/2 + 1
		case 1:
			p[i].Key += "!"
		case 2:
			p[i].Kind = 3 - p[i].Kind
		}
	}
	return hintsOf(laid(l...), len(l), p...)
}

// anyDirectory is files of all classes, to which something may have happened.
func anyDirectory(r *rand.Rand) []api.File {
	var l []api.File
	var earlier []api.Record
	for _, n := range []int{1, 2, 3, 0xa, 0xffffffff} {
		if r.Intn(2) == 0 {
			continue
		}
		records := anyRecords(r, r.Intn(4))
		if len(earlier) > 0 && r.Intn(3) == 0 {
			records = append(records, pick(r, earlier...)) // a copy
		}
		earlier = append(earlier, records...)
		seg, hint := fmt.Sprintf("seg-%08x.log", n), fmt.Sprintf("seg-%08x.hint", n)
		switch r.Intn(6) {
		case 0:
			l = append(l, files(hint, rightFor(records...))...)
		case 1:
			l = append(l, files(seg, laid(records...), hint, forged(r, records))...)
		case 2:
			l = append(l, files(seg, perhapsSpoilt(r, laid(records...)))...)
		default:
			l = append(l, files(seg, perhapsSpoilt(r, laid(records...)), hint, perhapsSpoilt(r, rightFor(records...)))...)
		}
	}
	for _, name := range []string{bad1, bad2, bad3, "x.tmp", "seg-00000001.log.tmp", "seg-00000002.hint.tmp", bad1 + ".tmp", "other", "seg-00000000.log", ".tmp", name60} {
		if r.Intn(4) == 0 {
			l = append(l, files(name, pick(r, "", "x", whole(anyRecord(r)), anyText(r, r.Intn(50))))...)
		}
	}
	r.Shuffle(len(l), func(i, k int) { l[i], l[k] = l[k], l[i] })
	return l
}

// tornDisk tells how a disk with such files is made, of which some bytes do not last.
func tornDisk(r *rand.Rand, l []api.File, capacity int) func(t *testing.T) *vdisk.Disk {
	lasting, behind := slices.Clone(l), slices.Clone(l)
	for i, f := range l {
		at := pick(r, len(f.Data), r.Intn(len(f.Data)+1))
		lasting[i].Data, behind[i].Data = f.Data[:at], f.Data[at:]
	}
	return func(t *testing.T) *vdisk.Disk {
		t.Helper()
		return unsynced(t, diskOf(t, capacity, lasting...), behind...)
	}
}

// Any directory, with any room, any fault, and whatever lasts of it; then what came of that, again and again.
func TestDeepOfManyDisks(t *testing.T) {
	r := source()
	answers := map[api.Errno]int{}
	seen := [7]int{}
	for range 5000 {
		l := anyDirectory(r)
		fresh := tornDisk(r, l, pick(r, room, room, sumOf(l), sumOf(l)+r.Intn(300)))
		one, other := fresh(t), fresh(t)
		for range 3 {
			if r.Intn(2) == 0 {
				f, n := pick(r, faults...), 1+r.Intn(20)
				f.arm(one, n)
				f.arm(other, n)
			}
			_, report, errno := checkDeep(t, one, other)
			answers[errno]++
			for _, a := range report.Files {
				seen[a.Hint]++
			}
			if r.Intn(2) == 0 {
				keep := pick(r, -1, 0, r.Intn(40), math.MaxInt)
				one.Crash(keep)
				other.Crash(keep)
			}
		}
	}
	for _, errno := range []api.Errno{api.OK, api.ErrPlanFull, api.ErrDiskIO, api.ErrDiskDown} {
		if answers[errno] < 400 {
			t.Errorf("not everything was seen: %v", answers)
		}
	}
	if slices.Min(seen[:]) < 300 {
		t.Errorf("not every verdict was seen: %v", seen)
	}
}

// Every segment of up to three pieces, alone, beside a hint file that is right for its frames or for its first one, and beside another segment.
func TestDeepOfEveryShortSegment(t *testing.T) {
	pieces := []string{a, b, whole(put(7, "a", "y")), whole(put(3, "bb", "z")), pointer, foot, "x", "\xa7", a[:5]}
	salvage := func(l []api.File) {
		checkDeep(t, diskOf(t, room, l...), diskOf(t, room, l...))
	}
	var lay func(s string, left int)
	lay = func(s string, left int) {
		salvage(files(seg1, s))
		salvage(files(seg1, s, hint1, rightFor(recA), bad1, "old"))
		salvage(files(seg1, s, hint1, rightFor(recA, recB), seg3, a+b+c, "x.tmp", s))
		if left == 0 {
			return
		}
		for _, piece := range pieces {
			lay(s+piece, left-1)
		}
	}
	lay("", 3)
}
