package fast_test

import (
	"bytes"
	"math"
	"math/rand"
	"slices"
	"testing"

	"salvor/api"
	"salvor/fast"
	"salvor/keydir"
	"salvor/mend"
	"salvor/names"
	"salvor/vdisk"
)

// worth is of each key the body of the record that counts, of all segments of some files: FOLD of V, wherever records stand.
func worth(l []api.File) []string {
	all := seenByWords(l)
	var bodies []string
	for _, key := range keysOf(all) {
		s, _ := lastByWords(all, key)
		bodies = append(bodies, key+"\x00"+s.Body)
	}
	return bodies
}

// dirWorth is of each key the body of the record that counts, as a directory tells it of some files.
func dirWorth(t *testing.T, dir *keydir.Dir, keys []string, l []api.File) []string {
	t.Helper()
	var bodies []string
	for _, key := range keys {
		s, errno := dir.Last(key)
		if errno == api.ErrKeydirNone {
			continue
		}
		body := bodyAt(l, s.Place)
		if errno != api.OK || s.Known && s.Body != body {
			t.Fatalf("of %q the directory tells %+v, %d, and there stands %q", key, s, errno, body)
		}
		bodies = append(bodies, key+"\x00"+body)
	}
	return bodies
}

// allKeys are those of which a record is there, or anybody tells.
func allKeys(l []api.File) []string {
	return keysOf(append(seenByWords(l), beliefsAtFirst(l).tells(l)...))
}

// checkTrue holds that what counts by a directory is a record of the files as they were, and stands at its place now.
func checkTrue(t *testing.T, dir *keydir.Dir, before, now []api.File) {
	t.Helper()
	for _, key := range allKeys(before) {
		s, errno := dir.Last(key)
		if errno == api.ErrKeydirNone {
			continue
		}
		is := func(x api.Seen) bool { return x.Key == s.Key && x.LSN == s.LSN && x.Kind == s.Kind }
		there := slices.IndexFunc(seenByWords(now), func(x api.Seen) bool { return is(x) && x.Place == s.Place && (!s.Known || x == s) })
		if errno != api.OK || !slices.ContainsFunc(seenByWords(before), is) || there < 0 {
			t.Fatalf("of %q it tells %+v, %d, of %s; then %s", key, s, errno, sayFiles(before), sayFiles(now))
		}
	}
	if places := dir.Rivals(); len(places) > 0 {
		t.Fatalf("the places %v are wanted", places)
	}
	for s := range dir.All() {
		if last, errno := dir.Last(s.Key); last != s || errno != api.OK || s.Kind != api.Put {
			t.Fatalf("All tells %+v", s)
		}
	}
}

// checkKept wants files of the classes Other and Quarantine to be as they were, and segments and their hint files that are believed.
func checkKept(t *testing.T, before, now []api.File) {
	t.Helper()
	trusted, _ := believedByWords(before)
	for _, f := range before {
		class, number := names.Parse(f.Name)
		_, is := trusted[number]
		if class == api.Temp || (class == api.Segment || class == api.Hints) && !is {
			continue
		}
		if data, there := ofName(now, f.Name); !there || !bytes.Equal(data, f.Data) {
			t.Fatalf("of %s %q has become %s", sayFiles(before), f.Name, shortly(data))
		}
	}
}

// checkAgain holds that a salvage of what was salvaged does nothing, and that each key has the same value.
func checkAgain(t *testing.T, d *vdisk.Disk, keys []string, values []string) {
	t.Helper()
	before, l := sayDisk(d), d.Files()
	dir, report, errno := fast.Salvage(d)
	if errno != api.OK || sayDisk(d) != before || report.Junk != 0 {
		t.Fatalf("Salvage of %s, which was salvaged: %s, %d; then %s", before, sayReport(report), errno, sayDisk(d))
	}
	if got := dirWorth(t, dir, keys, l); !slices.Equal(got, values) {
		t.Fatalf("Salvage of %s, which was salvaged, tells %q, want %q", before, got, values)
	}
	for _, a := range report.Files {
		if a.Hint != api.HintFine && a.Hint != api.HintNone || a.Bad != "" || a.Class != api.Segment {
			t.Fatalf("Salvage of %s, which was salvaged, tells %s", before, sayReport(report))
		}
	}
}

// through salvages a disk with room enough, and holds what the chapter says of that; it tells what counts, as the directory tells it.
func through(t *testing.T, d *vdisk.Disk) []string {
	t.Helper()
	before := d.Files()
	keys := allKeys(before)
	dir, report, errno := fast.Salvage(d)
	if errno != api.OK || report.Top != dir.Top() {
		t.Fatalf("Salvage of %s: %s, %d", sayFiles(before), sayReport(report), errno)
	}
	now := d.Files()
	checkTrue(t, dir, before, now)
	checkKept(t, before, now)
	if got, want := worth(now), worth(before); !slices.Equal(got, want) {
		t.Fatalf("of %s what counts has become %q, want %q", sayFiles(before), got, want)
	}
	values := dirWorth(t, dir, keys, now)
	checkAgain(t, d, keys, values)
	return values
}

// Whatever hint files say, no answer is made of a record that is not there; and salvaged once more, nothing is done.
func TestHintsNeverLie(t *testing.T) {
	r := source()
	same, other := 0, 0
	for range 3000 {
		l := anyDirectory(r)
		d := tornDisk(r, l, room)(t)
		if slices.Equal(through(t, d), worth(l)) {
			same++
		} else {
			other++ // a lie that hides something
		}
	}
	if same < 500 || other < 100 {
		t.Errorf("%d tell what the files have, %d something older", same, other)
	}
}

// honest are directories in which each hint file that is fine at first is right.
func honest(r *rand.Rand) []api.File {
	for {
		l := anyDirectory(r)
		right := true
		for _, s := range beliefsAtFirst(l).tells(l) {
			right = right && isTrue(l, api.Seen{Key: s.Key, LSN: s.LSN, Kind: s.Kind, Place: s.Place})
		}
		if right {
			return l
		}
	}
}

// If hint files that are fine are right, salvage by them tells what salvage by looking at everything tells.
func TestRightHintFilesTellAll(t *testing.T) {
	r := source()
	trusted := 0
	for range 1500 {
		l := honest(r)
		d, e := diskOf(t, room, l...), diskOf(t, room, l...)
		dir, report, errno := fast.Salvage(d)
		deep, deepReport, deepErrno := mend.Deep(e)
		if errno != api.OK || deepErrno != api.OK || report.Top != deepReport.Top || !sameFiles(d.Files(), e.Files()) || !slices.Equal(dir.Keys(), deep.Keys()) {
			t.Fatalf("of %s Salvage tells %s, %d, Deep %s, %d", sayFiles(l), sayReport(report), errno, sayReport(deepReport), deepErrno)
		}
		for _, key := range allKeys(l) {
			got, errno := dir.Last(key)
			want, wantErrno := deep.Last(key)
			if !got.Known {
				want.Known, want.Body = false, ""
			}
			if errno != wantErrno || got != want {
				t.Fatalf("of %s, %q, Salvage tells %+v, %d, Deep %+v, %d", sayFiles(l), key, got, errno, want, wantErrno)
			}
		}
		if got := through(t, diskOf(t, room, l...)); !slices.Equal(got, worth(l)) {
			t.Fatalf("of %s it tells %q, want %q", sayFiles(l), got, worth(l))
		}
		trusted += len(beliefsAtFirst(l))
	}
	if trusted < 1500 {
		t.Errorf("only %d segments were believed", trusted)
	}
}

// counts tells whether a lie counts, under the key that it tells, of all that is told: nothing there is greater.
func counts(told []api.Seen, s api.Seen) bool {
	return !slices.ContainsFunc(told, func(x api.Seen) bool { return x.Key == s.Key && x.LSN > s.LSN })
}

// One lie in an honest directory: if it counts, it is caught, and all is told as it is; if not, its segment is believed.
func TestALieThatCountsIsCaught(t *testing.T) {
	r := source()
	lies := map[bool]int{}
	for range 3000 {
		l := honest(r)
		believed := beliefsAtFirst(l)
		var liars []uint32
		for number, pointers := range believed {
			if len(pointers) > 0 {
				liars = append(liars, number)
			}
		}
		if len(liars) == 0 {
			continue
		}
		slices.Sort(liars)
		number := pick(r, liars...)
		n := r.Intn(len(believed[number]))
		was := believed[number][n]
		believed[number][n] = turned(r, was)
		if believed[number][n] == was {
			continue
		}
		name, _ := names.Make(api.Hints, number)
		i := slices.IndexFunc(l, func(f api.File) bool { return f.Name == name })
		l[i].Data = []byte(hintsOf(string(ofClass(api.Segment, l)[number]), believed[number]...))

		p := believed[number][n]
		s := api.Seen{Key: p.Key, LSN: p.LSN, Kind: p.Kind, Place: api.Place{Segment: number, At: p.At, Len: p.Len}}
		caught := counts(believed.tells(l), s)
		lies[caught]++
		_, dir, errno := checkPlan(t, l, room)
		if errno != api.OK {
			t.Fatalf("Plan of %s: %d", sayFiles(l), errno)
		}
		left, _ := believedByWords(l)
		if _, is := left[number]; is == caught || len(left) != len(believed)-map[bool]int{true: 1}[caught] {
			t.Fatalf("of %s the lie %+v: %d are believed, and that one: %v", sayFiles(l), p, len(left), is)
		}
		values := through(t, diskOf(t, room, l...))
		if caught && !slices.Equal(values, worth(l)) {
			t.Fatalf("of %s, with the lie %+v, it tells %q, want %q", sayFiles(l), p, values, worth(l))
		}
		if dir.Top() == 0 {
			t.Fatalf("of %s the directory knows nothing", sayFiles(l))
		}
	}
	if lies[true] < 500 || lies[false] < 150 {
		t.Errorf("%v lies counted", lies)
	}
}

// brokenOff are directories in which each thing that a salvage does is done, beside segments that are believed.
func brokenOff() [][]api.File {
	lied := with(4, lie(0, says(100, api.Put, "a"), recC, put(8, "a", "last")), recC, put(8, "a", "last"))
	return [][]api.File{
		messy(), slices.Concat(clean(1, recA), files(seg2, b+"torn", hint2, rightFor(recB))), slices.Concat(clean(1, recA), files(seg2, "x"+b+"y", hint2, "damaged")),
		slices.Concat(clean(1, recA), lied), slices.Concat(lied, files(seg1, a+"x"+c, "x.tmp", "t", hint1, rightFor(recA, recC), "seg-00000007.hint", "o")),
		slices.Concat(clean(3, put(7, "a", "z"), recC), files(seg1, "junk"+a, seg2, "", hint2, "x")), files(seg1, foot+a+"x", hint1, rightFor(recA)),
		// what is believed hides what counts: salvage by looking at everything finds that
		slices.Concat(with(1, lie(0, says(1, api.Put, "c"), put(20, "a", "hidden")), put(20, "a", "hidden")), clean(2, recA, recC), files(seg3, "x"+b)),
	}
}

// A salvage that ends at each of its acts, in each way, and a crash that keeps each number of the bytes that do not last: salvage by looking at everything finds what the files had at first.
func TestSalvageBrokenOffAtEachAct(t *testing.T) {
	breaks, torn := 0, 0
	for _, l := range brokenOff() {
		d := diskOf(t, room, l...)
		through(t, d)
		acts := d.Acts()
		for n := 1; n <= acts; n++ {
			for _, f := range faults {
				loose := 0
				for keep := -1; keep <= loose+1; keep++ {
					d := diskOf(t, room, l...)
					f.arm(d, n)
					dir, report, errno := fast.Salvage(d)
					if dir != nil || sayReport(report) != sayReport(api.Report{}) || errno != f.want || d.Acts() != n {
						t.Fatalf("Salvage of %s whose act %d %s: %s, %d, %d acts", sayFiles(l), n, f.what, sayReport(report), errno, d.Acts())
					}
					loose = sumOf(d.Files()) - sumOf(d.Lasting())
					d.Crash(keep)
					checkBroken(t, l, d)
					breaks++
					if keep == 1 && loose > 1 {
						torn++
					}
				}
			}
		}
	}
	if breaks < 1000 || torn < 30 {
		t.Errorf("only %d breaks, %d of which tore a file", breaks, torn)
	}
}

// checkBroken holds of what a salvage that was broken off has left of files that nothing is lost: salvage by looking at everything finds it, and one by hints tells no record that is not there.
func checkBroken(t *testing.T, first []api.File, d *vdisk.Disk) {
	t.Helper()
	left := d.Files()
	if got := worth(left); !slices.Equal(got, worth(first)) {
		t.Fatalf("of %s %s is left: what counts is %q, want %q", sayFiles(first), sayFiles(left), got, worth(first))
	}
	checkKept(t, first, left)
	through(t, diskOf(t, room, left...))
	dir, _, errno := mend.Deep(d)
	if errno != api.OK {
		t.Fatalf("mend.Deep of %s: %d", sayFiles(left), errno)
	}
	if got := dirWorth(t, dir, allKeys(first), d.Files()); !slices.Equal(got, worth(first)) {
		t.Fatalf("of %s %s was left: mend.Deep tells %q, want %q", sayFiles(first), sayFiles(left), got, worth(first))
	}
}

// Salvages of any directory, broken off one behind the other, with whatever lost.
func TestSalvageBrokenOffAgainAndAgain(t *testing.T) {
	r := source()
	breaks := 0
	for range 1500 {
		l := anyDirectory(r)
		d := diskOf(t, room, l...)
		for range 1 + r.Intn(4) {
			pick(r, faults...).arm(d, 1+r.Intn(1+r.Intn(20)))
			if _, _, errno := fast.Salvage(d); errno != api.OK {
				breaks++
			}
			if d.Down() || r.Intn(2) == 0 {
				d.Crash(pick(r, -1, 0, 1, r.Intn(40), math.MaxInt))
			}
			if got := worth(d.Files()); !slices.Equal(got, worth(l)) {
				t.Fatalf("of %s %s is left: what counts is %q, want %q", sayFiles(l), sayFiles(d.Files()), got, worth(l))
			}
		}
		d.FailAt(0)
		d.BreakAt(0, false)
		checkBroken(t, l, d)
	}
	if breaks < 1000 {
		t.Errorf("only %d breaks", breaks)
	}
}

// What a salvage has done lasts: a crash behind it takes nothing away.
func TestCrashBehindASalvage(t *testing.T) {
	r := source()
	for range 1000 {
		l := anyDirectory(r)
		d := diskOf(t, room, l...)
		if _, _, errno := fast.Salvage(d); errno != api.OK {
			t.Fatalf("Salvage of %s: %d", sayFiles(l), errno)
		}
		now := d.Files()
		d.Crash(0)
		if !sameFiles(d.Files(), now) {
			t.Fatalf("of %s a salvage leaves %s, and behind a crash there is %s", sayFiles(l), sayFiles(now), sayFiles(d.Files()))
		}
	}
}
