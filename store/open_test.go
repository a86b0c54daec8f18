package store_test

import (
	"fmt"
	"math"
	"slices"
	"testing"

	"salvor/api"
	"salvor/fast"
	"salvor/mend"
	"salvor/store"
	"salvor/vdisk"
)

// checkRefused wants Open to tell an error, and nothing beside it.
func checkRefused(t *testing.T, d *vdisk.Disk, c api.Config, want api.Errno) {
	t.Helper()
	s, report, err := store.Open(d, c)
	if s != nil || sayReport(report) != sayReport(api.Report{}) {
		t.Fatalf("Open with %v tells a store %v, %s", c, s != nil, sayReport(report))
	}
	checkError(t, err, "Open", want)
}

// messy is a directory with something of everything, in which much is to be done.
func messy() []api.File {
	return append(clean(2, put(4, "a", "four"), gone(6, "b")), files(
		seg1, "xx"+laid(put(5, "b", "five"))+"yy"+laid(put(3, "c", "\xa7\xa6")), hint1, "old",
		seg3, laid(put(7, "d", "seven"))+"torn", seg4, footFrame(api.Ending{}), "seg-00000004.hint", "wrong",
		"seg-00000009.hint", "orphan", "x.tmp", "temp", "other", "rest", bad1, "bad")...)
}

var messyMap = map[string]string{"a": "four", "c": "\xa7\xa6", "d": "seven"}

func TestOpenConfigs(t *testing.T) {
	for _, fast := range []bool{false, true} {
		for _, limit := range []int{math.MinInt, -1, 0, 1, 63, 64, 65, 1048575, 1048576, 1048577, math.MaxInt} {
			for _, every := range []int{math.MinInt, -1, 0, 1, 999, 1000, 1001, math.MaxInt} {
				c := api.Config{Limit: limit, Every: every, Fast: fast}
				d := diskOf(t, room, messy()...)
				if limit >= 64 && limit <= 1048576 && every >= 0 && every <= 1000 {
					checkMap(t, opened(t, d, c), messyMap)
					continue
				}
				before := sayDisk(d)
				checkRefused(t, d, c, api.ErrStoreArg)
				if sayDisk(d) != before {
					t.Fatalf("Open with %v has changed the disk", c)
				}
			}
		}
	}
}

// What is wrong with the Config is told ahead of what is wrong with the disk.
func TestOpenOfADiskThatIsDown(t *testing.T) {
	for _, fast := range []bool{false, true} {
		d := diskOf(t, room, messy()...)
		d.BreakAt(1, true)
		d.Sync("other")
		before := sayDisk(d)
		checkRefused(t, d, api.Config{Limit: 64, Fast: fast}, api.ErrDiskDown)
		checkRefused(t, d, api.Config{Limit: 63, Fast: fast}, api.ErrStoreArg)
		checkRefused(t, d, api.Config{Limit: 64, Every: 1001, Fast: fast}, api.ErrStoreArg)
		if sayDisk(d) != before {
			t.Errorf("then there is %s, was %s", sayDisk(d), before)
		}
		d.Crash(0)
		checkMap(t, opened(t, d, api.Config{Limit: 64, Fast: fast}), messyMap)
	}
}

// vdisk.New tells no disk beside an error.
func TestOpenOfNoDisk(t *testing.T) {
	checkRefused(t, nil, plain, api.ErrStoreArg)
	checkRefused(t, nil, api.Config{}, api.ErrStoreArg)
}

func TestOpenWithoutRoom(t *testing.T) {
	for _, fast := range []bool{false, true} {
		l := messy()
		d := diskOf(t, sumOf(l), l...)
		before := sayDisk(d)
		checkRefused(t, d, api.Config{Limit: 64, Fast: fast}, api.ErrPlanFull)
		if sayDisk(d) != before {
			t.Errorf("then there is %s, was %s", sayDisk(d), before)
		}
	}
}

// Fast or not says which salvage it is; its report is told as it is.
func TestOpenTellsTheReport(t *testing.T) {
	for _, l := range [][]api.File{nil, messy(), clean(1, put(1, "a", "x")), append(clean(1, put(1, "a", "x")), clean(2, put(1, "a", "y"))...)} {
		_, deep, _ := mend.Deep(diskOf(t, room, l...))
		_, byHints, _ := fast.Salvage(diskOf(t, room, l...))
		for _, x := range []struct {
			fast bool
			want api.Report
		}{{false, deep}, {true, byHints}} {
			_, report, err := store.Open(diskOf(t, room, l...), api.Config{Limit: 64, Fast: x.fast})
			checkError(t, err, "Open", api.OK)
			if sayReport(report) != sayReport(x.want) {
				t.Errorf("Open of %s (fast %v) tells\n  %s, want\n  %s", sayFiles(l), x.fast, sayReport(report), sayReport(x.want))
			}
		}
	}
	_, deep, _ := mend.Deep(diskOf(t, room, clean(1, put(1, "a", "x"))...))
	_, byHints, _ := fast.Salvage(diskOf(t, room, clean(1, put(1, "a", "x"))...))
	if sayReport(deep) == sayReport(byHints) {
		t.Errorf("the reports are the same: nothing was tested")
	}
}

// The greatest number is that of all records, also of those that do not count, and of Deletes.
func TestOpenTellsTheGreatestNumber(t *testing.T) {
	for _, x := range []struct {
		want uint64
		l    []api.File
	}{
		{0, nil}, {0, files(seg1, "", seg2, "junk")}, {7, clean(1, put(7, "a", "x"), put(3, "b", ""))}, {9, clean(1, put(7, "a", "x"), gone(9, "b"))},
		{9, append(clean(1, put(7, "a", "x")), clean(2, put(9, "c", ""), put(8, "a", ""))...)}, {spent - 1, clean(3, gone(spent-1, "a"))},
		{4, append(clean(1, put(4, "a", "x")), files("other", laid(put(9, "a", "")), bad1, laid(put(9, "a", "")), "x.tmp", laid(put(9, "a", "")))...)},
	} {
		for _, fast := range []bool{false, true} {
			s := opened(t, diskOf(t, room, x.l...), api.Config{Limit: 64, Fast: fast})
			checkLast(t, s, x.want)
			checkError(t, s.Put("new", ""), "Put", api.OK)
			checkLast(t, s, x.want+1)
		}
	}
}

// Hint files that are right, wrong, none, and lies: whoever opens fast believes what is fine, as far as what counts is true.
func TestOpenByHints(t *testing.T) {
	l := []api.Record{put(3, "a", "old"), put(8, "a", "new"), put(5, "b", "x")}
	whose := func(n int, lie func(p *api.Pointer)) string {
		return hintSaying(func(i int, p *api.Pointer) {
			if i == n {
				lie(p)
			}
		}, l...)
	}
	truth := map[string]string{"a": "new", "b": "x"}
	for _, x := range []struct {
		what, hints string
		want        map[string]string // opened fast
		last        uint64
	}{
		{"right", rightFor(l...), truth, 8},
		{"none", "", truth, 8},
		{"damaged", rightFor(l...) + "x", truth, 8},
		{"stale", rightFor(l[0]), truth, 8},
		{"a lie that is caught: a greater number", whose(0, func(p *api.Pointer) { p.LSN = 9 }), truth, 8},
		{"a lie that is caught: another key", whose(2, func(p *api.Pointer) { p.Key = "c" }), truth, 8},
		{"a lie that is caught: a Delete", whose(2, func(p *api.Pointer) { p.Kind = api.Delete }), truth, 8},
		{"a lie that is not: a lower number", whose(1, func(p *api.Pointer) { p.LSN = 1 }), map[string]string{"a": "old", "b": "x"}, 5},
	} {
		for _, fast := range []bool{false, true} {
			d := diskOf(t, room, files(seg1, laid(l...), hint1, x.hints)...)
			if x.what == "none" {
				isOK(t, d.Remove(hint1))
			}
			s := opened(t, d, api.Config{Limit: 100, Fast: fast})
			want, last := truth, uint64(8)
			if fast {
				want, last = x.want, x.last
			}
			checkMap(t, s, want)
			checkLast(t, s, last)
			checkError(t, s.Put("a", "newest"), "Put", api.OK)
			checkGet(t, s, "a", "newest")
		}
	}
}

// Two records of one key with one number: the greater one counts, whoever tells it.
func TestOpenOfRivals(t *testing.T) {
	l := append(clean(1, put(5, "a", "y")), clean(2, put(5, "a", "x"))...)
	l = append(l, clean(3, gone(5, "b"))...)
	l = append(l, clean(4, put(5, "b", "z"))...) // its body is less
	for _, fast := range []bool{false, true} {
		s := opened(t, diskOf(t, room, l...), api.Config{Limit: 100, Fast: fast})
		checkMap(t, s, map[string]string{"a": "y"})
		checkLast(t, s, 5)
		checkError(t, s.Merge(), "Merge", api.OK)
		checkMap(t, s, map[string]string{"a": "y"})
	}
}

// loose is a disk with files of which none has all its bytes last, but one.
func loose(t *testing.T) *vdisk.Disk {
	t.Helper()
	d := diskOf(t, room, files(seg2, laid(put(2, "b", "")))...)
	for _, f := range files("seg-0000000a.log", laid(put(10, "j", "")), seg3, laid(put(3, "c", "")), seg1, laid(put(1, "a", ""))+"torn", "seg-00000005.hint", "orphan",
		"other", "rest", bad1, "bad", "x.tmp", "temp", "seg-0000000b.log", "") {
		isOK(t, d.Create(f.Name))
		isOK(t, d.Append(f.Name, f.Data))
	}
	return d
}

// A store syncs the segments of which not all lasts, one act each, and nothing else.
func TestOpenSyncsSegments(t *testing.T) {
	for _, fast := range []bool{false, true} {
		d := loose(t)
		acts := salvageActs(t, d, fast)
		d = loose(t)
		earlier := d.Acts()
		opened(t, d, api.Config{Limit: 100, Fast: fast})
		if n := d.Acts() - earlier - acts; n != 3 {
			t.Errorf("%d syncs", n)
		}
		there, lasting := d.Files(), d.Lasting()
		for i, f := range there {
			want := f.Name != "other" && f.Name != bad1
			if (len(lasting[i].Data) == len(f.Data)) != want {
				t.Errorf("of %q %d bytes of %d last", f.Name, len(lasting[i].Data), len(f.Data))
			}
		}
	}
}

// salvageActs is how many acts a salvage of a disk asks for.
func salvageActs(t *testing.T, d *vdisk.Disk, byHints bool) int {
	t.Helper()
	before := d.Acts()
	by := mend.Deep
	if byHints {
		by = fast.Salvage
	}
	if _, _, errno := by(d); errno != api.OK {
		t.Fatalf("a salvage: %d", errno)
	}
	return d.Acts() - before
}

// By names in order; the first error of the disk ends it.
func TestOpenWhoseSyncsFail(t *testing.T) {
	want := []string{seg1, seg3, "seg-0000000a.log"}
	for _, fast := range []bool{false, true} {
		acts := salvageActs(t, loose(t), fast)
		for n := range want {
			for _, f := range faults {
				d := loose(t)
				f.arm(d, acts+n+1)
				checkRefused(t, d, api.Config{Limit: 100, Fast: fast}, f.want)
				var synced []string
				there, lasting := d.Files(), d.Lasting()
				for i, x := range there {
					if slices.Contains(want, x.Name) && len(lasting[i].Data) == len(x.Data) {
						synced = append(synced, x.Name)
					}
				}
				count := n
				if f.what == "breaks off, done" {
					count++
				}
				if !slices.Equal(synced, want[:count]) {
					t.Errorf("when sync %d %s: %q", n, f.what, synced)
				}
				d.Crash(math.MaxInt)
				checkMap(t, opened(t, d, plain), map[string]string{"a": "", "b": "", "c": "", "j": ""})
			}
		}
	}
}

// What does not last when a store is opened lasts ahead of what is put then.
func TestOpenMakesLastWhatItTells(t *testing.T) {
	for _, fast := range []bool{false, true} {
		d := diskOf(t, room)
		s := opened(t, d, ample)
		checkError(t, s.Put("a", "1"), "Put", api.OK)
		checkError(t, s.Delete("a"), "Delete", api.OK) // and the store is forgotten
		s = opened(t, d, api.Config{Limit: 1000, Every: 1, Fast: fast})
		checkError(t, s.Put("b", "2"), "Put", api.OK)
		d.Crash(0)
		s = opened(t, d, api.Config{Limit: 64, Fast: fast})
		checkMap(t, s, map[string]string{"b": "2"})
		checkLast(t, s, 3)
	}
}

// An empty segment, and one that lasts whole: nothing is synced.
func TestOpenThatAsksForNothing(t *testing.T) {
	l := append(clean(1, put(1, "a", "x")), clean(2)...)
	for _, f := range faults {
		for _, fast := range []bool{false, true} {
			d := diskOf(t, room, l...)
			f.arm(d, 1)
			s := opened(t, d, api.Config{Limit: 64, Fast: fast})
			if d.Acts() != 0 {
				t.Errorf("%d acts", d.Acts())
			}
			checkNone(t, s, "a", f.want) // it is armed still
		}
	}
}

// The limit and every are those of the Config: of the first writer, and of that behind a Merge.
func TestConfigIsTheWriters(t *testing.T) {
	for _, x := range []struct{ limit, every int }{{64, 0}, {64, 1}, {65, 2}, {100, 3}, {1000, 7}, {1048576, 0}, {1048576, 1000}} {
		d := diskOf(t, 1<<20)
		s := opened(t, d, api.Config{Limit: x.limit, Every: x.every})
		for round := range 2 {
			if round == 1 {
				checkError(t, s.Merge(), "Merge", api.OK)
			}
			earlier := len(d.Names())
			at, notYet, since := 0, 0, 0 // bytes of the segment at hand, those of them that do not last, and records since the last sync
			for n := range 1100 {
				size := len(whole(put(uint64(1100*round+n+1), fmt.Sprint(n), "value")))
				if at > 0 && at+size > x.limit {
					at, notYet, since = 0, 0, 0
				}
				at, notYet, since = at+size, notYet+size, since+1
				if since == x.every {
					notYet, since = 0, 0
				}
				checkError(t, s.Put(fmt.Sprint(n), "value"), "Put", api.OK)
				if n%50 < 5 {
					checkLoose(t, d, d.Names()[len(d.Names())-1], at, notYet)
				}
			}
			if n := len(d.Names()) - earlier; n < 1 || x.limit < 100 && n < 300 {
				t.Errorf("limit %d: %d segments", x.limit, n)
			}
		}
	}
}

// checkLoose wants a file of so many bytes, of which so many do not last.
func checkLoose(t *testing.T, d *vdisk.Disk, name string, size, notYet int) {
	t.Helper()
	there, _ := ofName(d.Files(), name)
	lasting, _ := ofName(d.Lasting(), name)
	if n := len(there) - len(lasting); len(there) != size || n != notYet {
		t.Fatalf("%q has %d bytes, of which %d do not last; want %d, %d", name, len(there), n, size, notYet)
	}
}
