package merge_test

import (
	"fmt"
	"math"
	"math/rand"
	"slices"
	"strings"
	"testing"

	"salvor/api"
	"salvor/merge"
	"salvor/vdisk"
)

var sizes = []int{64, 64, 64, 65, 80, 100, 200, 1000, 1048576}

func anyText(r *rand.Rand, count int) string {
	const telling = "\x00\x01\x02\x03\x04\x05\x7f\x80\xa5\xa6\xa7\xa8"
	b := make([]byte, count)
	for i := range b {
		b[i] = pick(r, telling[r.Intn(len(telling))], byte(r.Intn(256)))
	}
	return string(b)
}

func anyRecord(r *rand.Rand) api.Record {
	lsn := pick(r, 1, 0xa6, 0xa7, 1<<64-1, 1+uint64(r.Intn(6)), 1+uint64(r.Intn(6)), 1+uint64(r.Intn(6)), 1+uint64(r.Intn(6)))
	key := pick(r, "a", "b", "c", "d", "a", "b", anyText(r, 1+r.Intn(4)))
	if r.Intn(5) < 2 {
		return gone(lsn, key)
	}
	return put(lsn, key, pick(r, "", "v", "w", anyText(r, r.Intn(70))))
}

func anyRecords(r *rand.Rand, count int) []api.Record {
	var l []api.Record
	for range count {
		l = append(l, anyRecord(r))
	}
	return l
}

// spoilt is a text to which something has happened.
func spoilt(r *rand.Rand, s string) string {
	other := pick(r, whole(anyRecord(r)), foot, pointer, "x")
	if s == "" {
		return other
	}
	at := r.Intn(len(s))
	switch r.Intn(6) {
	case 0:
		return s[:at]
	case 1:
		return s[at:]
	case 2:
		return s[:at] + anyText(r, 1+r.Intn(3)) + s[at:]
	case 3:
		return s[:at] + string([]byte{s[at] ^ 1<<r.Intn(8)}) + s[at+1:]
	case 4:
		return s + other
	}
	return other + s
}

// anyDirectory is files of all classes, in which more segments are old ones than not.
func anyDirectory(r *rand.Rand) []api.File {
	var l []api.File
	var earlier []api.Record
	for _, n := range []int{1, 2, 3, 5, 0xa, 0xffffffff} {
		if r.Intn(5) < 2 {
			continue
		}
		records := anyRecords(r, r.Intn(4))
		if len(earlier) > 0 && r.Intn(3) == 0 {
			records = append(records, pick(r, earlier...)) // a copy
		}
		earlier = append(earlier, records...)
		segment, hints := fmt.Sprintf("seg-%08x.log", n), fmt.Sprintf("seg-%08x.hint", n)
		data := laid(records...)
		if r.Intn(3) == 0 {
			data = spoilt(r, data)
		}
		switch r.Intn(6) {
		case 0:
			l = append(l, files(hints, rightFor(records...))...)
		case 1:
			l = append(l, files(segment, data)...)
		case 2:
			l = append(l, files(segment, data, hints, spoilt(r, rightFor(records...)))...)
		default:
			l = append(l, files(segment, data, hints, rightFor(records...))...)
		}
	}
	for _, name := range []string{"bad-00000001.bin", "bad-00000002.bin", "x.tmp", seg1 + ".tmp", hint2 + ".tmp", seg4 + ".tmp", "bad-00000001.bin.tmp", "other", "seg-00000000.log", ".tmp", name60} {
		if r.Intn(5) == 0 {
			l = append(l, files(name, pick(r, "", "x", whole(anyRecord(r)), anyText(r, r.Intn(50))))...)
		}
	}
	r.Shuffle(len(l), func(i, k int) { l[i], l[k] = l[k], l[i] })
	return l
}

// Any files: also names that stand twice, or that no disk takes.
func TestKeepOfManyFiles(t *testing.T) {
	r := source()
	kept, deletes := 0, 0
	for range 20000 {
		l := anyDirectory(r)
		for r.Intn(3) == 0 && len(l) > 0 {
			f := pick(r, l...)
			f.Name = pick(r, pick(r, l...).Name, "", name61)
			l = slices.Insert(l, r.Intn(len(l)), f)
		}
		got := merge.Keep(l...)
		if want := keepByWords(l); !slices.Equal(got, want) {
			t.Fatalf("Keep of %s = %v, want %v", sayFiles(l), got, want)
		}
		kept += len(got)
		for _, x := range got {
			if x.Kind == api.Delete {
				deletes++
			}
		}
		turned := slices.Clone(l)
		slices.Reverse(turned)
		if again := merge.Keep(turned...); !slices.Equal(again, got) {
			t.Fatalf("Keep of %s = %v, handed in the other way round %v", sayFiles(l), got, again)
		}
	}
	if kept < 30000 || deletes < 8000 {
		t.Errorf("only %d were kept, %d Deletes", kept, deletes)
	}
}

func TestPlanOfManyFiles(t *testing.T) {
	r := source()
	answers := map[api.Errno]int{}
	idle := 0
	for range 4000 {
		l := anyDirectory(r)
		if r.Intn(20) == 0 {
			l = append(l, files(pick(r, "", name61, seg1, hint1), "x")...)
		}
		size := pick(r, sizes...)
		if r.Intn(20) == 0 {
			size = pick(r, 63, 1048577, 0, -1)
		}
		p, errno := checkPlan(t, l, size, pick(r, room, room, room, sumOf(l), sumOf(l)+r.Intn(400), sumOf(l)-1))
		answers[errno]++
		if errno != api.OK {
			continue
		}
		if len(p.Steps) == 0 {
			idle++
		}
		checkPlan(t, l, size, p.Peak)
		checkPlan(t, l, size, p.Peak-1)
	}
	for _, errno := range []api.Errno{api.OK, api.ErrMergeArg, api.ErrPlanArg, api.ErrPlanFull} {
		if answers[errno] < 150 {
			t.Errorf("not everything was seen: %v", answers)
		}
	}
	if idle < 100 {
		t.Errorf("only %d plans had no steps", idle)
	}
}

// Up to two records in each of two segments, in every way: of as few keys, LSNs and kinds as make a difference; with a third one, which is none, an old one, or not.
func TestPlanOfEveryTwoShortSegments(t *testing.T) {
	pieces := []string{laid(put(1, "a", strings.Repeat("x", 50))), laid(put(2, "a", "y")), laid(gone(2, "a")), laid(gone(3, "b")), laid(put(3, "b", "")), foot}
	texts := []string{""}
	for _, one := range pieces {
		texts = append(texts, one)
		for _, other := range pieces {
			texts = append(texts, one+other)
		}
	}
	for _, one := range texts {
		for _, other := range texts {
			for i, l := range [][]api.File{segments(one, other), append(segments(one, other), files(seg3, laid(put(1, "b", "z")), hint2, "x")...), append(segments(one, other), files(seg4, "junk"+laid(gone(4, "c"), put(1, "a", "w")))...)} {
				if (len(one)+len(other)+i)%3 == 0 { // so many suffice: all would take long
					checkPlan(t, l, 64, room)
				}
			}
		}
	}
}

// tornDisk tells how a disk with such files is made, of which some bytes do not last.
func tornDisk(r *rand.Rand, l []api.File, capacity int) func(t *testing.T) *vdisk.Disk {
	lasting, behind := slices.Clone(l), slices.Clone(l)
	for i, f := range l {
		at := pick(r, len(f.Data), r.Intn(len(f.Data)+1))
		lasting[i].Data, behind[i].Data = f.Data[:at], f.Data[at:]
	}
	return func(t *testing.T) *vdisk.Disk {
		t.Helper()
		d := diskOf(t, capacity, lasting...)
		for _, f := range behind {
			if errno := d.Append(f.Name, f.Data); errno != api.OK {
				t.Fatalf("Append to %q: %d", f.Name, errno)
			}
		}
		return d
	}
}

// Any directory, with any room, any fault, and whatever lasts of it; then what came of that, again and again.
func TestRunOfManyDisks(t *testing.T) {
	r := source()
	answers := map[api.Errno]int{}
	for range 2500 {
		l := anyDirectory(r)
		fresh := tornDisk(r, l, pick(r, room, room, sumOf(l), sumOf(l)+r.Intn(300)))
		one, other := fresh(t), fresh(t)
		for range 3 {
			if r.Intn(2) == 0 {
				f, n := pick(r, faults...), 1+r.Intn(15)
				f.arm(one, n)
				f.arm(other, n)
			}
			answers[checkRun(t, one, other, pick(r, append(sizes, 63)...))]++
			if r.Intn(2) == 0 {
				keep := pick(r, -1, 0, r.Intn(40), math.MaxInt)
				one.Crash(keep)
				other.Crash(keep)
			}
		}
	}
	for _, errno := range []api.Errno{api.OK, api.ErrMergeArg, api.ErrPlanFull, api.ErrDiskIO, api.ErrDiskDown} {
		if answers[errno] < 300 {
			t.Errorf("not everything was seen: %v", answers)
		}
	}
}
