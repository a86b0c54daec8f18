package merge_test

import (
	"bytes"
	"math"
	"slices"
	"strings"
	"testing"

	"salvor/api"
	"salvor/fast"
	"salvor/hint"
	"salvor/keydir"
	"salvor/mend"
	"salvor/merge"
	"salvor/names"
	"salvor/plan"
	"salvor/segment"
	"salvor/vdisk"
)

// checkLive holds that some files have the values that files had at first, and the greatest LSN.
func checkLive(t *testing.T, first, now []api.File) {
	t.Helper()
	if got, want := liveOf(now), liveOf(first); !slices.Equal(got, want) || topOf(now) != topOf(first) {
		t.Fatalf("of %s %s is left: %q, top %d, want %q, top %d", sayFiles(first), sayFiles(now), got, topOf(now), want, topOf(first))
	}
}

// checkOthers holds that all files are as they were but old segments and their hint files.
func checkOthers(t *testing.T, first, now []api.File) {
	t.Helper()
	for _, f := range first {
		owner := f
		if name, is := names.Pair(f.Name); is && strings.HasSuffix(f.Name, ".hint") {
			data, there := ofName(first, name)
			owner = api.File{Name: name, Data: data}
			if !there {
				owner.Data = []byte("none")
			}
		}
		if data, there := ofName(now, f.Name); !isOld(owner) && (!there || !bytes.Equal(data, f.Data)) {
			t.Fatalf("of %s %q has become %s", sayFiles(first), f.Name, shortly(data))
		}
	}
}

// checkSteps holds what follows at every first so many steps, also if what is being written then is cut off at any length.
func checkSteps(t *testing.T, first []api.File, steps []api.Step) {
	t.Helper()
	for n := range len(steps) + 1 {
		now, errno := plan.Apply(first, steps[:n]...)
		if errno != api.OK {
			t.Fatalf("%s cannot be done to %s", saySteps(steps[:n]), sayFiles(first))
		}
		checkLive(t, first, now)
		checkOthers(t, first, now)
		if n == len(steps) || steps[n].Op != api.StepWrite {
			continue
		}
		for cut := 0; cut <= len(steps[n].Data); cut += 1 + cut/20 { // each one of the first
			torn := append(slices.Clone(now), api.File{Name: steps[n].Name, Data: steps[n].Data[:cut]})
			checkLive(t, first, torn)
		}
	}
}

// checkMerged holds what follows of what is left behind all steps.
func checkMerged(t *testing.T, first, now []api.File, size int, kept []api.Record) {
	t.Helper()
	var stands []api.Record
	for _, f := range byNames(oldOf(now)) {
		records := recordsIn(f.Data)
		stands = append(stands, records...)
		if len(f.Data) > size && len(records) > 1 || len(f.Data) == 0 {
			t.Fatalf("of %s there comes a segment of %d bytes with %d records", sayFiles(first), len(f.Data), len(records))
		}
	}
	if !slices.Equal(stands, kept) {
		t.Fatalf("of %s the records %v are in segments, want %v", sayFiles(first), stands, kept)
	}
	p, errno := merge.Plan(now, size, room)
	if again := merge.Keep(now...); errno != api.OK || slices.Equal(again, kept) != (len(p.Steps) == 0) {
		t.Fatalf("of %s there comes %s, of which %v is kept, by %s, %d", sayFiles(first), sayFiles(now), again, saySteps(p.Steps), errno)
	}
}

// checkHints holds that each new segment has its right hint file.
func checkHints(t *testing.T, first, now []api.File) {
	t.Helper()
	for _, f := range oldOf(now) {
		if data, there := ofName(first, f.Name); there && bytes.Equal(data, f.Data) {
			continue // nothing was done
		}
		name, _ := names.Pair(f.Name)
		right, _ := hint.Of(f.Data)
		if data, there := ofName(now, name); !there || !bytes.Equal(data, right) {
			t.Fatalf("of %s there comes %s: the hint file of %q is not right", sayFiles(first), sayFiles(now), f.Name)
		}
		if _, verdict := hint.Load(right, segment.Print(f.Data)); verdict != api.HintFine {
			t.Fatalf("the right hint file of %q is not fine: %d", f.Name, verdict)
		}
	}
}

// checkLaidBack holds that what was deleted does not come back, whichever of the old segments are there again.
func checkLaidBack(t *testing.T, first, now []api.File) {
	t.Helper()
	old := slices.DeleteFunc(oldOf(first), func(f api.File) bool {
		_, there := ofName(now, f.Name)
		return there
	})
	for set := range 1 << len(old) {
		again := slices.Clone(now)
		for i, f := range old {
			if set>>i&1 == 1 {
				again = append(again, f)
			}
		}
		checkLive(t, first, again)
	}
}

// follows holds all that follows of a merge of files; it tells what comes of it.
func follows(t *testing.T, first []api.File, size int) []api.File {
	t.Helper()
	p, errno := merge.Plan(first, size, room)
	if errno != api.OK {
		t.Fatalf("Plan of %s: %d", sayFiles(first), errno)
	}
	checkSteps(t, first, p.Steps)
	now, _ := plan.Apply(first, p.Steps...)
	checkMerged(t, first, now, size, merge.Keep(first...))
	checkHints(t, first, now)
	checkLaidBack(t, first, now)
	return now
}

// telling are directories in which each thing that a merge does is done.
func telling() [][]api.File {
	x, y, d := put(1, "a", "x"), put(2, "a", "y"), gone(3, "a")
	long := strings.Repeat("v", 70)
	return [][]api.File{
		nil, segments(""), segments(laid(x)), segments(laid(x, y)), segments(laid(x), laid(y)), segments(laid(y), laid(x)), segments(laid(x), laid(d)), segments(laid(d), laid(x)),
		segments(laid(x, y), laid(d, put(4, "b", ""))), segments(laid(d, put(4, "b", "")), laid(x)+"junk"), segments(laid(d, put(4, "b", "")), laid(d)+"junk"), segments(laid(d)+"junk", laid(x, y)),
		segments(laid(put(5, "a", "x"), put(5, "a", "y")), laid(gone(5, "a"))), segments(laid(x, y), laid(put(9, "b", ""))+foot, laid(gone(9, "b"))),
		append(clean(1, x, put(3, "c", long), gone(6, "b")), clean(2, put(4, "b", "z"), y, put(5, "d", long))...),
		append(clean(2, gone(7, "b"), put(5, "a", long)), append(files(seg3, "junk"+laid(put(6, "b", "hidden")), hint3, "x", "seg-00000001.hint", "o", seg4+".tmp", "torn", "other", "rest"), clean(9, put(8, "c", ""), x)...)...),
		messy(),
	}
}

func TestWhatFollows(t *testing.T) {
	for _, l := range telling() {
		for _, size := range []int{64, 100, 1048576} {
			now := follows(t, l, size)
			then := follows(t, now, size)
			follows(t, then, 64)
		}
	}
}

func TestWhatFollowsOfManyFiles(t *testing.T) {
	r := source()
	steps, dropped := 0, 0
	for range 1000 {
		l := anyDirectory(r)
		size := pick(r, sizes...)
		now := follows(t, l, size)
		p, _ := merge.Plan(l, size, room)
		steps += len(p.Steps)
		// Deletes that hide nothing any more go, and then nothing is left to do
		then := follows(t, now, size)
		if len(merge.Keep(now...)) < len(merge.Keep(l...)) {
			dropped++
		}
		if q, errno := merge.Plan(then, size, room); errno != api.OK || len(q.Steps) > 0 {
			t.Fatalf("of %s merged twice there comes %s, and then %s, %d", sayFiles(l), sayFiles(then), sayPlan(q), errno)
		}
	}
	if steps < 9000 || dropped < 80 {
		t.Errorf("only %d steps, %d times Deletes were dropped later", steps, dropped)
	}
}

// valuesOf is of each key that has one its value, as a directory tells it of a disk.
func valuesOf(t *testing.T, d *vdisk.Disk, dir *keydir.Dir) []api.Pair {
	t.Helper()
	var pairs []api.Pair
	for s := range dir.All() {
		r, errno := segment.Read(d, s.Place)
		if errno != api.OK || r.Key != s.Key || r.LSN != s.LSN {
			t.Fatalf("of %q the directory tells %+v, and there stands %v, %d", s.Key, s, r, errno)
		}
		pairs = append(pairs, api.Pair{Key: r.Key, Value: r.Value})
	}
	return pairs
}

// salvage is how a disk is salvaged.
type salvage func(d *vdisk.Disk) (*keydir.Dir, api.Report, api.Errno)

var salvages = []salvage{mend.Deep, fast.Salvage}

// checkSalvaged holds that a salvage of a disk tells the values that files had at first, and leaves them.
func checkSalvaged(t *testing.T, first []api.File, d *vdisk.Disk, by salvage) {
	t.Helper()
	before := d.Files()
	dir, _, errno := by(d)
	if errno != api.OK {
		t.Fatalf("of %s %s is left, which cannot be salvaged: %d", sayFiles(first), sayFiles(before), errno)
	}
	if got, want := valuesOf(t, d, dir), liveOf(first); !slices.Equal(got, want) || dir.Top() != topOf(first) {
		t.Fatalf("of %s %s is left: a salvage tells %q, top %d, want %q, top %d", sayFiles(first), sayFiles(before), got, dir.Top(), want, topOf(first))
	}
	checkLive(t, first, d.Files())
}

// A merge that ends at each of its acts, in each way, and a crash that keeps each number of the bytes that do not last: behind that, behind a salvage, and behind merges that come through, the answers are what they were.
func TestMergeBrokenOffAtEachAct(t *testing.T) {
	breaks, torn := 0, 0
	for _, l := range telling() {
		d := diskOf(t, room, l...)
		merge.Run(d, 64)
		acts := d.Acts()
		for n := 1; n <= acts; n++ {
			for _, f := range faults {
				loose := 0
				for keep := -1; keep <= loose+1; keep++ {
					d := diskOf(t, room, l...)
					f.arm(d, n)
					if errno := merge.Run(d, 64); errno != f.want || d.Acts() != n {
						t.Fatalf("Run of %s whose act %d %s: %d, %d acts", sayFiles(l), n, f.what, errno, d.Acts())
					}
					checkLive(t, l, d.Files())
					loose = sumOf(d.Files()) - sumOf(d.Lasting())
					d.Crash(keep)
					checkLive(t, l, d.Files())
					checkOthers(t, l, d.Files())
					checkLaidBack(t, l, d.Files())
					checkGoesOn(t, l, d, salvages[breaks%2])
					breaks++
					if keep == 1 && loose > 1 {
						torn++
					}
				}
			}
		}
	}
	if breaks < 2000 || torn < 50 {
		t.Errorf("only %d breaks, %d of which tore a file", breaks, torn)
	}
}

// checkGoesOn merges and salvages what is left of files.
func checkGoesOn(t *testing.T, first []api.File, d *vdisk.Disk, by salvage) {
	t.Helper()
	left := d.Files()
	if errno := merge.Run(d, 64); errno != api.OK {
		t.Fatalf("of %s %s is left, which cannot be merged: %d", sayFiles(first), sayFiles(left), errno)
	}
	checkLive(t, first, d.Files())
	checkSalvaged(t, first, d, by)
	for range 2 {
		if errno := merge.Run(d, 64); errno != api.OK {
			t.Fatalf("of %s, salvaged: %d", sayFiles(left), errno)
		}
	}
	checkSalvaged(t, first, d, by)

	d = diskOf(t, room, left...)
	checkSalvaged(t, first, d, by)
	if errno := merge.Run(d, 64); errno != api.OK {
		t.Fatalf("of %s, salvaged: %d", sayFiles(left), errno)
	}
	checkSalvaged(t, first, d, by)
}

// An act that fails leaves the disk up: the next merge needs no crash.
func TestMergeBehindAnActThatFails(t *testing.T) {
	for _, l := range telling() {
		d := diskOf(t, room, l...)
		merge.Run(d, 64)
		for n := 1; n <= d.Acts(); n++ {
			d := diskOf(t, room, l...)
			d.FailAt(n)
			if errno := merge.Run(d, 64); errno != api.ErrDiskIO || d.Down() {
				t.Fatalf("Run of %s whose act %d fails: %d", sayFiles(l), n, errno)
			}
			checkOthers(t, l, d.Files())
			checkGoesOn(t, l, d, salvages[n%2])
		}
	}
}

// Merges and salvages of any directory, broken off one behind the other, with whatever lost.
func TestMergeBrokenOffAgainAndAgain(t *testing.T) {
	r := source()
	breaks := 0
	for range 1500 {
		l := anyDirectory(r)
		d := diskOf(t, room, l...)
		for range 1 + r.Intn(6) {
			pick(r, faults...).arm(d, 1+r.Intn(1+r.Intn(30)))
			errno := api.OK
			if r.Intn(4) == 0 {
				_, _, errno = pick(r, salvages...)(d)
			} else {
				errno = merge.Run(d, pick(r, sizes...))
			}
			if errno != api.OK {
				breaks++
			}
			if d.Down() || r.Intn(2) == 0 {
				d.Crash(pick(r, -1, 0, 1, r.Intn(40), math.MaxInt))
			}
			checkLive(t, l, d.Files())
		}
		d.FailAt(0)
		d.BreakAt(0, false)
		checkGoesOn(t, l, d, pick(r, salvages...))
	}
	if breaks < 1500 {
		t.Errorf("only %d breaks", breaks)
	}
}

// What a merge has done lasts: a crash behind it takes nothing away.
func TestCrashBehindAMerge(t *testing.T) {
	r := source()
	for range 500 {
		l := anyDirectory(r)
		d := diskOf(t, room, l...)
		if errno := merge.Run(d, pick(r, sizes...)); errno != api.OK {
			t.Fatalf("Run of %s: %d", sayFiles(l), errno)
		}
		now := d.Files()
		d.Crash(0)
		if !sameFiles(d.Files(), now) {
			t.Fatalf("of %s a merge leaves %s, and behind a crash there is %s", sayFiles(l), sayFiles(now), sayFiles(d.Files()))
		}
	}
}

// With less room than is needed nothing is changed at all.
func TestAnyRoom(t *testing.T) {
	r := source()
	full := 0
	for range 1500 {
		l := anyDirectory(r)
		d := diskOf(t, sumOf(l)+r.Intn(1+r.Intn(600)), l...)
		before := sayDisk(d)
		switch errno := merge.Run(d, pick(r, sizes...)); {
		case errno == api.OK:
			checkLive(t, l, d.Files())
			checkOthers(t, l, d.Files())
		case errno != api.ErrPlanFull || sayDisk(d) != before:
			t.Fatalf("Run of %s: %d; then %s", before, errno, sayDisk(d))
		default:
			full++
		}
	}
	if full < 300 || full > 1200 {
		t.Errorf("%d times there was no room", full)
	}
}
