package fast_test

import (
	"fmt"
	"math"
	"math/rand"
	"slices"
	"strings"
	"testing"

	"salvor/api"
	"salvor/vdisk"
)

func anyText(r *rand.Rand, count int) string {
	const telling = "\x00\x01\x02\x03\x04\x05\x7f\x80\xa5\xa6\xa7\xa8"
	b := make([]byte, count)
	for i := range b {
		b[i] = pick(r, telling[r.Intn(len(telling))], byte(r.Intn(256)))
	}
	return string(b)
}

// anyLSN is most often a small one, so that records have rivals.
func anyLSN(r *rand.Rand) uint64 {
	if r.Intn(20) == 0 {
		return pick[uint64](r, 0xa6, 0xa7, 1<<64-1)
	}
	return 1 + uint64(r.Intn(8))
}

// anyKey is most often one of a few.
func anyKey(r *rand.Rand) string {
	if r.Intn(15) == 0 {
		return anyText(r, 1+r.Intn(4))
	}
	return pick(r, "a", "b", "c", "d")
}

func anyRecord(r *rand.Rand) api.Record {
	if r.Intn(3) == 0 {
		return gone(anyLSN(r), anyKey(r))
	}
	return put(anyLSN(r), anyKey(r), pick(r, "", "v", "w", anyText(r, r.Intn(10))))
}

func anyRecords(r *rand.Rand, count int) []api.Record {
	var l []api.Record
	for range count {
		l = append(l, anyRecord(r))
	}
	return l
}

// spoilt is a text to which something has happened.
func spoilt(r *rand.Rand, s string) string {
	other := pick(r, whole(anyRecord(r)), foot, pointer, "x")
	if s == "" {
		return other
	}
	at := r.Intn(len(s))
	switch r.Intn(6) {
	case 0:
		return s[:at]
	case 1:
		return s[at:]
	case 2:
		return s[:at] + anyText(r, 1+r.Intn(3)) + s[at:]
	case 3:
		return s[:at] + string([]byte{s[at] ^ 1<<r.Intn(8)}) + s[at+1:]
	case 4:
		return s + other
	}
	return other + s
}

func perhapsSpoilt(r *rand.Rand, s string) string {
	for r.Intn(3) == 0 {
		s = spoilt(r, s)
	}
	return s
}

// covering are pointers that say of each frame what it has, and have no byte between them: so where there is junk, they point to too many. None, if that cannot be.
func covering(segment string) []api.Pointer {
	var l []api.Pointer
	for _, x := range framesByWords([]byte(segment)) {
		p := api.Pointer{LSN: 1, Kind: api.Put, Key: "a", At: x.At}
		if r := x.Frame.Record; isRecord(r) {
			p.LSN, p.Kind, p.Key = r.LSN, r.Kind, r.Key
		}
		l = append(l, p)
	}
	for i := range l {
		end := len(segment)
		if i == 0 {
			l[i].At = 0
		}
		if i < len(l)-1 {
			end = l[i+1].At
		}
		l[i].Len = end - l[i].At
	}
	return l
}

// turned is a pointer that lies in something.
func turned(r *rand.Rand, p api.Pointer) api.Pointer {
	switch r.Intn(5) {
	case 0:
		p.LSN = anyLSN(r)
	case 1:
		p.Key = anyKey(r)
	case 2:
		p.Kind = 3 - p.Kind
	case 3:
		p.LSN, p.Key = anyLSN(r), anyKey(r)
	case 4:
		p.LSN, p.Key, p.Kind = anyLSN(r), anyKey(r), pick(r, api.Put, api.Delete)
	}
	return p
}

// forged is a hint file for any segment that is fine by itself, where one can be; it lies in some things.
func forged(r *rand.Rand, segment string) string {
	l := covering(segment)
	for i := range l {
		if r.Intn(3) == 0 {
			l[i] = turned(r, l[i])
		}
		if i > 0 && r.Intn(12) == 0 { // where one ends and the next one begins
			at := l[i-1].At + 1 + r.Intn(l[i-1].Len+l[i].Len-1)
			l[i].Len += l[i].At - at
			l[i-1].Len += at - l[i].At
			l[i].At = at
		}
	}
	return hintsOf(segment, l...)
}

// anySegment is a segment, and its hint file (or none), to which something may have happened.
func anySegment(r *rand.Rand, number int, records []api.Record) []api.File {
	seg, hint := fmt.Sprintf("seg-%08x.log", number), fmt.Sprintf("seg-%08x.hint", number)
	s := laid(records...)
	switch r.Intn(16) {
	case 0:
		return files(hint, rightFor(records...))
	case 1:
		return files(seg, perhapsSpoilt(r, s))
	case 2:
		return files(seg, perhapsSpoilt(r, s), hint, perhapsSpoilt(r, rightFor(records...)))
	case 3:
		spoilt := spoilt(r, s)
		return files(seg, spoilt, hint, forged(r, spoilt))
	case 4, 5, 6, 7:
		return files(seg, s, hint, rightFor(records...))
	}
	return files(seg, s, hint, forged(r, s))
}

// anyDirectory is files of all classes; many hint files lie.
func anyDirectory(r *rand.Rand) []api.File {
	var l []api.File
	var earlier []api.Record
	for _, n := range []int{1, 2, 3, 4, 0xa, 0xffffffff} {
		if r.Intn(3) == 0 {
			continue
		}
		records := anyRecords(r, r.Intn(4))
		if len(earlier) > 0 && r.Intn(3) == 0 {
			records = append(records, pick(r, earlier...)) // a copy
		}
		earlier = append(earlier, records...)
		l = append(l, anySegment(r, n, records)...)
	}
	for _, name := range []string{bad1, bad2, "x.tmp", "seg-00000001.log.tmp", "seg-00000002.hint.tmp", bad1 + ".tmp", "other", "seg-00000000.log", name60} {
		if r.Intn(6) == 0 {
			l = append(l, files(name, pick(r, "", "x", whole(anyRecord(r)), anyText(r, r.Intn(50))))...)
		}
	}
	r.Shuffle(len(l), func(i, k int) { l[i], l[k] = l[k], l[i] })
	return l
}

// tornDisk tells how a disk with such files is made, of which some bytes do not last.
func tornDisk(r *rand.Rand, l []api.File, capacity int) func(t *testing.T) *vdisk.Disk {
	lasting, behind := slices.Clone(l), slices.Clone(l)
	for i, f := range l {
		at := pick(r, len(f.Data), r.Intn(len(f.Data)+1))
		lasting[i].Data, behind[i].Data = f.Data[:at], f.Data[at:]
	}
	return func(t *testing.T) *vdisk.Disk {
		t.Helper()
		return unsynced(t, diskOf(t, capacity, lasting...), behind...)
	}
}

// Any directory: who is believed, the plan, and all that the directory knows are what the chapter's words ask for.
func TestPlanOfManyDirectories(t *testing.T) {
	r := source()
	traces, liars, answers := map[string]int{}, 0, map[api.Errno]int{}
	for range 8000 {
		l := anyDirectory(r)
		_, _, errno := checkPlan(t, l, pick(r, room, room, room, room, sumOf(l), sumOf(l)+r.Intn(300), sumOf(l)-1, -1))
		answers[errno]++
		believed, trace := believedByWords(l)
		steps := ""
		for _, s := range trace {
			steps += s[:6] + " "
		}
		traces[steps]++
		for number := range believed {
			if slices.ContainsFunc(believed.tells(l), func(s api.Seen) bool { return s.Place.Segment == number && !isTrue(l, s) }) {
				liars++
			}
		}
	}
	// who is caught at a wanted place, at what counts, and behind others who were
	for _, steps := range []string{"", "step 2 ", "step 3 ", "step 2 step 3 ", "step 3 step 2 ", "step 3 step 3 ", "step 2 step 2 ", "step 2 step 3 step 2 ", "step 2 step 3 step 3 "} {
		if traces[steps] < 3 {
			t.Errorf("not every way to be caught was seen: %v", traces)
			break
		}
	}
	if liars < 500 || answers[api.OK] < 3000 || answers[api.ErrPlanFull] < 300 || answers[api.ErrPlanArg] < 300 {
		t.Errorf("only %d liars that are believed, answers %v", liars, answers)
	}
}

// Any directory, with any room, any fault, and whatever lasts of it; then what came of that, again and again.
func TestSalvageOfManyDisks(t *testing.T) {
	r := source()
	answers := map[api.Errno]int{}
	seen := [7]int{}
	for range 2500 {
		l := anyDirectory(r)
		fresh := tornDisk(r, l, pick(r, room, room, sumOf(l), sumOf(l)+r.Intn(200)))
		one, other := fresh(t), fresh(t)
		for range 3 {
			if r.Intn(2) == 0 {
				f, n := pick(r, faults...), 1+r.Intn(15)
				f.arm(one, n)
				f.arm(other, n)
			}
			_, report, errno := checkSalvage(t, one, other)
			answers[errno]++
			for _, a := range report.Files {
				seen[a.Hint]++
			}
			if r.Intn(2) == 0 {
				keep := pick(r, -1, 0, r.Intn(40), math.MaxInt)
				one.Crash(keep)
				other.Crash(keep)
			}
		}
	}
	for _, errno := range []api.Errno{api.OK, api.ErrPlanFull, api.ErrDiskIO, api.ErrDiskDown} {
		if answers[errno] < 200 {
			t.Errorf("not everything was seen: %v", answers)
		}
	}
	if slices.Min(seen[:]) < 50 {
		t.Errorf("not every verdict was seen: %v", seen)
	}
}

// Every hint file of two segments with one record each, of as few keys, LSNs and kinds as make a difference, beside a third one that is not believed.
func TestPlanOfEveryPairOfHintFiles(t *testing.T) {
	var all []func(p *api.Pointer)
	for _, lsn := range []uint64{1, 2, 3} {
		for _, kind := range []api.Kind{api.Put, api.Delete} {
			for _, key := range []string{"k", "l"} {
				all = append(all, says(lsn, kind, key))
			}
		}
	}
	for _, second := range []api.Record{put(2, "k", "w"), put(1, "l", ""), gone(2, "k"), put(3, "l", "x")} {
		for _, third := range []string{"", laid(put(2, "k", "v")), laid(gone(3, "l"), put(1, "k", "x")) + "junk"} {
			for _, x := range all {
				for _, y := range all {
					first := put(2, "k", "v")
					l := slices.Concat(with(1, lie(0, x, first), first), with(2, lie(0, y, second), second), files(seg3, third))
					checkPlan(t, l, room)
				}
			}
		}
	}
}

// Every segment of up to three pieces, beside hint files that are right for some of it, and beside another segment.
func TestSalvageOfEveryShortSegment(t *testing.T) {
	pieces := []string{a, b, whole(put(7, "a", "y")), whole(put(3, "bb", "z")), pointer, foot, "x", "\xa7", a[:5]}
	salvage := func(l []api.File) {
		checkSalvage(t, diskOf(t, room, l...), diskOf(t, room, l...))
	}
	var lay func(s string, left int)
	lay = func(s string, left int) {
		salvage(files(seg1, s))
		salvage(files(seg1, s, hint1, hintsOf(s, covering(s)...), seg2, a+b, hint2, rightFor(recA, recB)))
		salvage(files(seg1, s, hint1, rightFor(recA, recB), seg3, a+b+c, "x.tmp", s))
		if left == 0 {
			return
		}
		for _, piece := range pieces {
			lay(s+piece, left-1)
		}
	}
	lay("", 3)
}

// Any names and bytes at all: also such as no store would write.
func TestPlanOfAnyBytes(t *testing.T) {
	r := source()
	for range 3000 {
		var l []api.File
		for range r.Intn(8) {
			name := pick(r, seg1, seg2, hint1, hint2, bad1, seg1+".tmp", "seg-00000001.logx", strings.Repeat("n", r.Intn(63)), anyText(r, r.Intn(4)))
			l = append(l, files(name, perhapsSpoilt(r, anyText(r, r.Intn(40))+laid(anyRecords(r, r.Intn(3))...)))...)
		}
		checkPlan(t, l, pick(r, room, room, room, sumOf(l), 0, r.Intn(300), -r.Intn(3), api.MaxDisk, api.MaxDisk+1))
	}
}
