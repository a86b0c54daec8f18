package fast_test

import (
	"fmt"
	"slices"
	"strings"
	"testing"

	"salvor/api"
	"salvor/keydir"
)

// states tells of each segment, by numbers, whether it is believed, or the verdict on its hint file; and holds that Plan tells what the chapter's words ask for.
func states(t *testing.T, l []api.File) (string, *keydir.Dir) {
	t.Helper()
	p, dir, errno := checkPlan(t, l, room)
	if errno != api.OK {
		t.Fatalf("Plan of %s: %d", sayFiles(l), errno)
	}
	var s []string
	for _, a := range p.Report.Files {
		if a.Class == api.Segment && a.Hint == api.HintFine && len(a.Extents) == 0 {
			s = append(s, "believed")
		} else {
			s = append(s, verdicts[a.Hint])
		}
	}
	return strings.Join(s, " "), dir
}

// want holds who is believed, and the values of some keys: they are what dir tells, and nothing else.
func want(t *testing.T, what string, l []api.File, state string, counting ...api.Seen) {
	t.Helper()
	got, dir := states(t, l)
	if got != state {
		t.Errorf("%s: %s, want %s", what, got, state)
	}
	for _, s := range counting {
		if last, errno := dir.Last(s.Key); last != s || errno != api.OK {
			t.Errorf("%s: of %q the directory tells %+v, %d, want %+v", what, s.Key, last, errno, s)
		}
	}
	var puts []string
	for _, s := range counting {
		if s.Kind == api.Put {
			puts = append(puts, s.Key)
		}
	}
	slices.Sort(puts)
	if keys := dir.Keys(); !slices.Equal(keys, puts) {
		t.Errorf("%s: the directory tells the keys %q, want %q", what, keys, puts)
	}
}

// at is where the n-th of some records begins in their segment.
func at(n int, l ...api.Record) int { return pointersTo(l...)[n].At }

func TestTheChaptersExamples(t *testing.T) {
	a1, b2, a3, c4 := put(1, "a", "1"), put(2, "b", "2"), put(3, "a", "3"), gone(4, "c")
	one, two := []api.Record{a1, b2}, []api.Record{a3, c4}

	// 1. both are believed, the plan has no steps, and the directory knows no body
	l := slices.Concat(clean(1, one...), clean(2, two...))
	dir := untouched(t, l, reportOf(4, 0, 0, believed(seg1, seg2)...))
	checkDir(t, dir, pointed(a1, 1, 0), pointed(b2, 1, at(1, one...)), pointed(a3, 2, 0), pointed(c4, 2, at(1, two...)))

	// 2. both have a record of one key with one LSN: these two are Known
	x, y := put(5, "a", "x"), put(5, "a", "y")
	dir = untouched(t, slices.Concat(clean(1, b2, x), clean(2, y, c4)), reportOf(5, 0, 0, believed(seg1, seg2)...))
	checkDir(t, dir, pointed(b2, 1, 0), seen(x, 1, len(whole(b2))), seen(y, 2, 0), pointed(c4, 2, len(whole(y))))

	// 3. the second one says of its record of a that its LSN is 100: it is looked into, and its right hint file is written
	l = slices.Concat(clean(1, one...), with(2, lie(0, says(100, api.Put, "a"), two...), two...))
	dir = planned(t, l, reportOf(4, 2, 0, believed(seg1)[0], looked(seg2, api.HintForged, two...)), slices.Concat(clean(1, one...), clean(2, two...)))
	checkDir(t, dir, pointed(a1, 1, 0), pointed(b2, 1, at(1, one...)), seen(a3, 2, 0), seen(c4, 2, at(1, two...)))

	// 4. it says of a record that does not count that its LSN is lower: it is believed; if that is the one that counts, an older one is told
	l = slices.Concat(clean(1, put(9, "a", "9"), b2), with(2, lie(0, says(2, api.Put, "a"), two...), two...))
	dir = untouched(t, l, reportOf(9, 0, 0, believed(seg1, seg2)...))
	checkDir(t, dir, pointed(put(9, "a", "9"), 1, 0), pointed(b2, 1, len(whole(put(9, "a", "9")))), pointed(put(2, "a", "3"), 2, 0), pointed(c4, 2, at(1, two...)))
	five := []api.Record{put(5, "a", "5"), b2}
	l = slices.Concat(clean(1, five...), with(2, lie(0, says(4, api.Put, "a"), put(6, "a", "6")), put(6, "a", "6")))
	dir = untouched(t, l, reportOf(5, 0, 0, believed(seg1, seg2)...))
	checkDir(t, dir, pointed(five[0], 1, 0), pointed(b2, 1, at(1, five...)), pointed(put(4, "a", "6"), 2, 0))

	// 5. a torn end, and the hint file that was right before: it is looked into
	n, m := len(whole(a1)), len(whole(b2))
	l = files(seg1, laid(one...)+"\xa7\x00", hint1, rightFor(one...))
	dir = planned(t, l, reportOf(2, 2, 2, account(seg1, api.HintFine, bad1, isFrame(0, n), isFrame(n, m), isJunk(n+m, 2))), append(clean(1, one...), files(bad1, "\xa7\x00")...))
	checkDir(t, dir, seen(a1, 1, 0), seen(b2, 1, n))
}

// A lie that counts under the key that it tells is caught; one that does not count is not asked.
func TestALieOfAGreaterLSN(t *testing.T) {
	k1, l2, k3 := put(1, "k", "1"), put(2, "l", "2"), put(3, "k", "3")
	one := []api.Record{k1, l2}
	for lsn, state := range map[uint64]string{2: "believed believed", 3: "forged believed", 4: "forged believed", 1<<64 - 1: "forged believed"} {
		l := slices.Concat(with(1, lie(0, says(lsn, api.Put, "k"), one...), one...), clean(2, k3))
		last, other := pointed(k3, 2, 0), pointed(l2, 1, at(1, one...))
		if state != "believed believed" {
			other = seen(l2, 1, at(1, one...))
		}
		want(t, fmt.Sprintf("the LSN %d", lsn), l, state, last, other)
	}
	// of the record that counts as it is
	l := slices.Concat(clean(1, one...), with(2, lie(0, says(4, api.Put, "k"), k3), k3))
	want(t, "that of what counts", l, "believed forged", seen(k3, 2, 0), pointed(l2, 1, at(1, one...)))
	// alone in all files
	want(t, "one record", with(1, lie(0, says(2, api.Put, "k"), k1), k1), "forged", seen(k1, 1, 0))
	// a lower one of the only record counts, too
	want(t, "one record", with(1, lie(0, says(2, api.Put, "k"), k3), k3), "forged", seen(k3, 1, 0))
}

func TestALieOfAnotherKey(t *testing.T) {
	k1, l2, k3 := put(1, "k", "1"), put(2, "l", "2"), put(3, "k", "3")
	one := []api.Record{k1, l2}
	// under a key that nobody has
	l := slices.Concat(with(1, lie(0, says(1, api.Put, "new"), one...), one...), clean(2, k3))
	want(t, "a new key", l, "forged believed", pointed(k3, 2, 0), seen(l2, 1, at(1, one...)))
	// under a key whose others are less
	l = slices.Concat(with(1, lie(1, says(2, api.Put, "m"), one...), one...), clean(2, k3, put(1, "m", "")))
	want(t, "less others", l, "forged believed", pointed(k3, 2, 0), seen(l2, 1, at(1, one...)), pointed(put(1, "m", ""), 2, len(whole(k3))))
	// under a key of which another one has the LSN
	l = slices.Concat(with(1, lie(1, says(2, api.Put, "m"), one...), one...), clean(2, k3, put(2, "m", "")))
	want(t, "another one with the LSN", l, "forged believed", pointed(k3, 2, 0), seen(l2, 1, at(1, one...)), pointed(put(2, "m", ""), 2, len(whole(k3))))
	// under a key that has a greater one: it does not count, and hides what it is
	l = slices.Concat(with(1, lie(1, says(2, api.Put, "k"), one...), one...), clean(2, k3))
	want(t, "a greater other", l, "believed believed", pointed(k3, 2, 0))
	// of a key whose last record is a Delete
	k9 := gone(9, "k")
	l = slices.Concat(with(1, lie(1, says(9, api.Put, "k"), one...), one...), clean(2, k9))
	want(t, "beside a Delete", l, "forged believed", pointed(k9, 2, 0), seen(l2, 1, at(1, one...)))
}

func TestALieOfTheKind(t *testing.T) {
	k1, k3, d3 := put(1, "k", "1"), put(3, "k", "3"), gone(3, "k")
	// a Put of a Delete that counts, and a Delete of a Put that does
	want(t, "a Put of a Delete", with(1, lie(1, says(3, api.Put, "k"), k1, d3), k1, d3), "forged", seen(d3, 1, len(whole(k1))))
	want(t, "a Delete of a Put", with(1, lie(1, says(3, api.Delete, "k"), k1, k3), k1, k3), "forged", seen(k3, 1, len(whole(k1))))
	// of those that do not count
	l := slices.Concat(with(1, lie(0, says(1, api.Delete, "k"), k1), k1), clean(2, k3))
	want(t, "a Delete of a Put that does not count", l, "believed believed", pointed(k3, 2, 0))
	l = slices.Concat(with(1, lie(0, says(3, api.Put, "k"), d3), d3), clean(2, put(4, "k", "4")))
	want(t, "a Put of a Delete that does not count", l, "believed believed", pointed(put(4, "k", "4"), 2, 0))
	// what counts is a Delete: no key has a value, but it is asked
	l = slices.Concat(with(1, lie(0, says(9, api.Delete, "k"), k1), k1), clean(2, k3))
	want(t, "a Delete that is none", l, "forged believed", pointed(k3, 2, 0))
}

// A lie about where a record stands, in a file that is fine by itself.
func TestALieOfThePlace(t *testing.T) {
	k1, l2, m3 := put(1, "k", "1"), put(2, "l", "2"), put(3, "m", "3")
	records := []api.Record{k1, l2, m3}
	for _, shift := range []int{-3, -1, 1, 2} {
		pointers := pointersTo(records...)
		pointers[0].Len += shift
		pointers[1].At += shift
		pointers[1].Len -= shift
		hints := hintsOf(laid(records...), pointers...)
		want(t, fmt.Sprintf("shifted by %d", shift), with(1, hints, records...), "forged", seen(k1, 1, 0), seen(l2, 1, at(1, records...)), seen(m3, 1, at(2, records...)))
		// neither of the two counts
		l := slices.Concat(with(1, hints, records...), clean(2, put(8, "k", ""), put(9, "l", "")))
		want(t, fmt.Sprintf("shifted by %d, where it does not count", shift), l, "believed believed",
			pointed(put(8, "k", ""), 2, 0), pointed(put(9, "l", ""), 2, len(whole(put(8, "k", "")))), pointed(m3, 1, at(2, records...)))
	}
	// two records changed about, which are as long
	x, y := put(1, "k", "1"), put(2, "l", "2")
	pointers := pointersTo(x, y)
	pointers[0].LSN, pointers[0].Key, pointers[1].LSN, pointers[1].Key = 2, "l", 1, "k"
	want(t, "changed about", with(1, hintsOf(laid(x, y), pointers...), x, y), "forged", seen(x, 1, 0), seen(y, 1, len(whole(x))))
}

// Who is caught is looked into whole: what else its hint file says is not believed either.
func TestWhatElseALiarSays(t *testing.T) {
	k1, l2, m3 := put(1, "k", "1"), put(2, "l", "2"), put(3, "m", "3")
	pointers := pointersTo(k1, l2, m3)
	says(9, api.Put, "k")(&pointers[0])
	says(1, api.Put, "l")(&pointers[1]) // which would not count
	says(2, api.Put, "l")(&pointers[2])
	l := slices.Concat(with(1, hintsOf(laid(k1, l2, m3), pointers...), k1, l2, m3), clean(2, put(1, "l", "older")))
	want(t, "three lies", l, "forged believed", seen(k1, 1, 0), seen(l2, 1, at(1, k1, l2, m3)), seen(m3, 1, at(2, k1, l2, m3)))
}

// A lie at a place that is wanted: beside a rival that is believed, and one that is looked into.
func TestALieAmongRivals(t *testing.T) {
	k5, l5, m1 := put(5, "k", "x"), put(5, "l", "y"), put(1, "m", "")
	turn := says(5, api.Put, "k")
	l := slices.Concat(clean(1, k5), with(2, lie(0, turn, l5, m1), l5, m1))
	want(t, "beside one that is believed", l, "believed forged", pointed(k5, 1, 0), seen(l5, 2, 0), seen(m1, 2, len(whole(l5))))
	l = slices.Concat(files(seg1, laid(k5)), with(2, lie(0, turn, l5, m1), l5, m1))
	want(t, "beside one that is looked into", l, "missing forged", seen(k5, 1, 0), seen(l5, 2, 0), seen(m1, 2, len(whole(l5))))
	// both lie: both are caught at once
	l = slices.Concat(with(1, lie(0, turn, l5), l5), with(2, lie(0, turn, m1), m1), clean(3, put(4, "k", "true")))
	want(t, "beside another lie", l, "forged forged believed", seen(l5, 1, 0), seen(m1, 2, 0), pointed(put(4, "k", "true"), 3, 0))
	// the true one, behind a catch, is alone: it is not Known
	_, dir := states(t, slices.Concat(clean(1, k5), with(2, lie(0, turn, l5), l5)))
	checkDir(t, dir, pointed(k5, 1, 0), seen(l5, 2, 0))
}

// A lie that counts only when another one was caught.
func TestAChainOfLies(t *testing.T) {
	k1, l2, m3 := put(1, "k", "1"), put(2, "l", "2"), put(3, "m", "3")
	chain := slices.Concat(clean(1, k1), with(2, lie(0, says(50, api.Put, "k"), l2), l2), with(3, lie(0, says(60, api.Put, "k"), m3), m3))
	if _, trace := believedByWords(chain); !slices.Equal(trace, []string{"step 3 [3]", "step 3 [2]"}) {
		t.Errorf("it is %q", trace)
	}
	want(t, "two lies", chain, "believed forged forged", pointed(k1, 1, 0), seen(l2, 2, 0), seen(m3, 3, 0))
	// a true record between the two: the lesser lie is believed
	l := append(slices.Clone(chain), clean(4, put(55, "k", "true"))...)
	want(t, "a true one between", l, "believed believed forged believed", pointed(put(55, "k", "true"), 4, 0), seen(m3, 3, 0))
	// as long a chain as one likes
	l = clean(1, k1)
	counting := []api.Seen{pointed(k1, 1, 0)}
	for n := 2; n < 40; n++ {
		x := put(uint64(n), fmt.Sprintf("x%d", n), "")
		l = append(l, with(n, lie(0, says(uint64(100+n), api.Put, "k"), x), x)...)
		counting = append(counting, seen(x, uint32(n), 0))
	}
	want(t, "a long chain", l, "believed"+strings.Repeat(" forged", 38), counting...)
}

// caughtSo holds who is caught in which step by the chapter's words, so that a test shows what it is meant to show.
func caughtSo(t *testing.T, what string, l []api.File, trace ...string) {
	t.Helper()
	if _, got := believedByWords(l); !slices.Equal(got, trace) {
		t.Fatalf("%s: caught are %q, want %q", what, got, trace)
	}
}

// All pointers of a step are asked, then all segments that are caught are believed no more: so one that would not have counted behind another catch is caught all the same.
func TestAllThatAreCaughtAtOnce(t *testing.T) {
	k50, y1 := put(50, "k", "true"), put(1, "y", "")
	// the first hides that k has a greater record than the second one's lie
	l := slices.Concat(with(1, lie(0, says(10, api.Put, "x"), k50), k50), with(2, lie(0, says(20, api.Put, "k"), y1), y1))
	caughtSo(t, "at what counts", l, "step 3 [1 2]")
	want(t, "at what counts", l, "forged forged", seen(k50, 1, 0), seen(y1, 2, 0))
	// the same at wanted places: both lies have a rival
	x10, k20 := put(10, "x", ""), put(20, "k", "")
	l = append(l, clean(3, x10, k20)...)
	caughtSo(t, "at wanted places", l, "step 2 [1 2]")
	want(t, "at wanted places", l, "forged forged believed", seen(k50, 1, 0), pointed(x10, 3, 0), seen(y1, 2, 0))
}

// What is wanted is asked first: what counts is asked only when nobody is caught there, and not if it counts no more by then.
func TestWhatIsWantedIsAskedFirst(t *testing.T) {
	k50, x10, y1 := put(50, "k", "true"), put(10, "x", ""), put(1, "y", "")
	l := slices.Concat(with(1, lie(0, says(10, api.Put, "x"), k50), k50), clean(2, x10), with(3, lie(0, says(20, api.Put, "k"), y1), y1))
	caughtSo(t, "a wanted place", l, "step 2 [1]")
	want(t, "a wanted place", l, "forged believed believed", seen(k50, 1, 0), pointed(x10, 2, 0))
	// where x has a greater one, nothing is wanted: so the lie is asked while it counts, and the other one never is
	x11 := put(11, "x", "")
	l = slices.Concat(with(1, lie(0, says(10, api.Put, "x"), k50), k50), clean(2, x10, x11), with(3, lie(0, says(20, api.Put, "k"), y1), y1))
	caughtSo(t, "nothing is wanted", l, "step 3 [3]")
	want(t, "nothing is wanted", l, "believed believed forged", pointed(x11, 2, len(whole(x10))), seen(y1, 3, 0))
}

// Behind each catch it begins with what is wanted, also when the catch was at what counts.
func TestBehindACatchItBeginsAnew(t *testing.T) {
	z7, w6, hidden, v1 := put(7, "z", "true"), put(6, "w", ""), put(30, "k", "true"), put(1, "v", "")
	// 2 tells its w 6 as z 7, where 3 has one, and hides k 30; 1 tells its z 7 as q 8; 4 tells its v 1 as k 20
	second := []api.Record{w6, hidden}
	pointers := pointersTo(second...)
	says(7, api.Put, "z")(&pointers[0])
	says(2, api.Put, "z")(&pointers[1])
	l := slices.Concat(
		with(1, lie(0, says(8, api.Put, "q"), z7), z7), with(2, hintsOf(laid(second...), pointers...), second...),
		clean(3, put(7, "z", "other")), with(4, lie(0, says(20, api.Put, "k"), v1), v1),
	)
	caughtSo(t, "a rival from the beginning", l, "step 2 [2]", "step 3 [1]")
	want(t, "a rival from the beginning", l, "forged forged believed believed", seen(z7, 1, 0), seen(w6, 2, 0), seen(hidden, 2, len(whole(w6))))

	// 1 tells its p 4 as p 9: caught at what counts; 2 tells its u 1 as p 4: a rival by then, caught at a wanted place
	p4, u1 := put(4, "p", "true"), put(1, "u", "")
	l = slices.Concat(with(1, lie(0, says(9, api.Put, "p"), p4), p4), with(2, lie(0, says(4, api.Put, "p"), u1), u1))
	caughtSo(t, "a rival by a catch", l, "step 3 [1]", "step 2 [2]")
	want(t, "a rival by a catch", l, "forged forged", seen(p4, 1, 0), seen(u1, 2, 0))

	// and what that one hides (k 30) is known before it is asked what counts of k: so the lie of 3 (k 20), which counts only when the lie of 1 (k 40) is known, is never asked
	two := []api.Record{u1, hidden}
	pointers = pointersTo(two...)
	says(4, api.Put, "p")(&pointers[0])
	says(3, api.Put, "p")(&pointers[1])
	one := []api.Record{p4, put(2, "o", "")}
	lies := pointersTo(one...)
	says(9, api.Put, "p")(&lies[0])
	says(40, api.Put, "k")(&lies[1])
	l = slices.Concat(with(1, hintsOf(laid(one...), lies...), one...), with(2, hintsOf(laid(two...), pointers...), two...), with(3, lie(0, says(20, api.Put, "k"), v1), v1))
	caughtSo(t, "what is wanted again comes first", l, "step 3 [1]", "step 2 [2]")
	want(t, "what is wanted again comes first", l, "forged forged believed", seen(p4, 1, 0), seen(put(2, "o", ""), 1, len(whole(p4))), seen(u1, 2, 0), seen(hidden, 2, len(whole(u1))))

	// three turns: where nothing greater is hidden, the lie of 3 is caught at last
	l = slices.Concat(with(1, hintsOf(laid(one...), lies...), one...), with(2, lie(0, says(4, api.Put, "p"), u1), u1), with(3, lie(0, says(20, api.Put, "k"), v1), v1))
	caughtSo(t, "three turns", l, "step 3 [1]", "step 2 [2]", "step 3 [3]")
	want(t, "three turns", l, "forged forged forged", seen(p4, 1, 0), seen(put(2, "o", ""), 1, len(whole(p4))), seen(u1, 2, 0), seen(v1, 3, 0))
}

// A key of which only lies were told is none any more.
func TestAKeyThatIsALie(t *testing.T) {
	x, y := put(1, "x", ""), gone(2, "y")
	l := slices.Concat(with(1, lie(0, says(5, api.Put, "none"), x), x), with(2, lie(0, says(6, api.Put, "none"), y), y))
	want(t, "a Put that is none", l, "forged forged", seen(x, 1, 0), seen(y, 2, 0))
	l = slices.Concat(with(1, lie(0, says(5, api.Delete, "none"), x), x), with(2, lie(0, says(5, api.Delete, "none"), y), y))
	want(t, "a Delete that is none", l, "forged forged", seen(x, 1, 0), seen(y, 2, 0))
	_, dir := states(t, l)
	if s, errno := dir.Last("none"); errno != api.ErrKeydirNone || s != (api.Seen{}) {
		t.Errorf("it tells %+v, %d", s, errno)
	}
}

// Also those that are not clean are caught: by their junk, and by frames of other kinds.
func TestASegmentThatIsNotCleanIsCaught(t *testing.T) {
	s := a + "junk" + b
	report := reportOf(7, 2, 4, account(seg1, api.HintStale, bad1, isFrame(0, len(a)), isJunk(len(a), 4), isFrame(len(a)+4, len(b))))
	dir := planned(t, files(seg1, s, hint1, hintsOf(s, covering(s)...)), report, append(clean(1, recA, recB), files(bad1, "junk")...))
	checkDir(t, dir, seen(recA, 1, 0), seen(recB, 1, len(a)))

	for _, other := range []string{foot, pointer} {
		s = a + other
		pointers := append(pointersTo(recA), api.Pointer{LSN: 1, Kind: api.Put, Key: "k", At: len(a), Len: len(other)})
		report = reportOf(7, 2, 0, account(seg1, api.HintForged, "", isFrame(0, len(a)), isFrame(len(a), len(other))))
		dir = planned(t, files(seg1, s, hint1, hintsOf(s, pointers...)), report, files(seg1, s))
		checkDir(t, dir, seen(recA, 1, 0))
	}
}
