package segment_test

import (
	"math"
	"strings"
	"testing"

	"salvor/api"
)

// The chapter's first example, act by act.
func TestPutIntoAnEmptyDirectory(t *testing.T) {
	d := made(t, 1000)
	w := started(t, d, 64, 0)
	a, b, c := sized(t, 1, 30), sized(t, 2, 30), sized(t, 3, 30)
	checkPut(t, w, a, 1, 0)
	checkNow(t, w, 1, 30)
	checkHas(t, d, 2, log(1, 0, a))
	checkPut(t, w, b, 1, 30)
	checkNow(t, w, 1, 60)
	checkHas(t, d, 3, log(1, 0, a, b))
	checkPut(t, w, c, 2, 0)
	checkNow(t, w, 2, 30)
	checkHas(t, d, 6, log(1, 2, a, b), log(2, 0, c))
	for p, r := range map[api.Place]api.Record{place(1, 0, 30): a, place(1, 30, 30): b, place(2, 0, 30): c} {
		checkRead(t, d, p, r, api.OK)
	}
}

func TestPutOfRecordsOfAnyKind(t *testing.T) {
	d := made(t, 100000)
	w := started(t, d, 1048576, 0)
	at := 0
	var all []api.Record
	for _, r := range []api.Record{
		put(1, "k", "v"), put(1, "k", "v"), gone(2, "k"), put(math.MaxUint64, "k", ""), gone(math.MaxUint64, "\x00"), put(1, "\xa7\xa6", "\xa6\xa7\x00\xff"),
		put(128, strings.Repeat("\xa7", 64), strings.Repeat("\xa7", 2048)), gone(300, strings.Repeat("\xa6", 64)), put(5, strings.Repeat("z", 64), strings.Repeat("y", 2048)), put(4, "k", whole(put(1, "in", "another"))),
	} {
		checkPut(t, w, r, 1, at)
		all = append(all, r)
		at += len(whole(r))
		checkNow(t, w, 1, at)
		checkHas(t, d, len(all)+1, log(1, 0, all...))
	}
}

// What may not be is refused ahead of all acts, and changes nothing; also where there would have been no room for it.
func TestPutOfRecordsThatMayNotBe(t *testing.T) {
	d := made(t, 1000)
	w := started(t, d, 64, 2)
	long := strings.Repeat("x", 2049)
	refuses := func() {
		for _, c := range []struct {
			r    api.Record
			want api.Errno
		}{
			{api.Record{}, api.ErrFrameKind}, {api.Record{LSN: 1, Key: "k"}, api.ErrFrameKind}, {api.Record{LSN: 1, Kind: api.Hint, Key: "k"}, api.ErrFrameKind}, {api.Record{LSN: 1, Kind: 5, Key: "k"}, api.ErrFrameKind}, {api.Record{LSN: 1, Kind: -1, Key: "k"}, api.ErrFrameKind}, {api.Record{LSN: 1, Kind: 257, Key: "k"}, api.ErrFrameKind},
			{api.Record{LSN: 1, Kind: api.Foot, Key: "k"}, api.ErrFrameArg}, {api.Record{Kind: api.Foot}, api.ErrFrameArg},
			{put(0, "k", "v"), api.ErrFrameLSN}, {gone(0, "k"), api.ErrFrameLSN}, {put(0, "", long), api.ErrFrameLSN},
			{put(1, "", "v"), api.ErrFrameKey}, {gone(1, ""), api.ErrFrameKey}, {put(1, long[:65], "v"), api.ErrFrameKey}, {gone(1, long[:65]), api.ErrFrameKey}, {put(1, "", long), api.ErrFrameKey},
			{put(1, "k", long), api.ErrFrameValue}, {api.Record{LSN: 1, Kind: api.Delete, Key: "k", Value: "v"}, api.ErrFrameValue},
		} {
			checkNoPut(t, w, c.r, c.want)
		}
	}
	checkActs(t, d, 0, refuses)
	checkNow(t, w, 0, 0)
	a, b := sized(t, 1, 60), sized(t, 2, 20)
	checkPut(t, w, a, 1, 0)
	checkActs(t, d, 0, refuses)
	checkNow(t, w, 1, 60)
	d.FailAt(4) // were one of them taken for a record, another act would fail
	checkActs(t, d, 0, refuses)
	checkPut(t, w, b, 2, 0)
	checkHas(t, d, 5, log(1, 1, a), log(2, 0, b))
	checkNoPut(t, w, b, api.ErrDiskIO)
	checkShut(t, d, w)
}

// Of a disk that is down they are refused all the same, and the writer is not broken by that.
func TestPutOfRecordsThatMayNotBeOnADiskThatIsDown(t *testing.T) {
	d := made(t, 1000)
	w := started(t, d, 64, 0)
	checkPut(t, w, put(1, "k", "v"), 1, 0)
	d.BreakAt(1, false)
	d.Create("x")
	checkActs(t, d, 0, func() { checkNoPut(t, w, put(0, "k", "v"), api.ErrFrameLSN) })
	d.Crash(100)
	checkPut(t, w, put(2, "k", "v"), 1, 14)
}

// A frame that just fits stays; with one byte more another segment is begun.
func TestPutUpToTheLimit(t *testing.T) {
	for _, limit := range []int{64, 65, 100, 300, 2000} {
		for first := 13; first <= min(limit-13, 400); first++ {
			a, just, more := sized(t, 1, first), sized(t, 2, limit-first), sized(t, 2, limit-first+1)
			d := made(t, 10000)
			w := started(t, d, limit, 0)
			checkPut(t, w, a, 1, 0)
			checkPut(t, w, just, 1, first)
			checkNow(t, w, 1, limit)
			checkHas(t, d, 3, log(1, 0, a, just))
			d = made(t, 10000)
			w = started(t, d, limit, 0)
			checkPut(t, w, a, 1, 0)
			checkPut(t, w, more, 2, 0)
			checkNow(t, w, 2, limit-first+1)
			checkHas(t, d, 5, log(1, 1, a), log(2, 0, more))
		}
	}
}

func TestPutBehindASegmentThatIsJustFull(t *testing.T) {
	d := made(t, 1000)
	w := started(t, d, 64, 0)
	a, b := sized(t, 1, 64), sized(t, 2, 13)
	checkPut(t, w, a, 1, 0)
	checkNow(t, w, 1, 64)
	checkPut(t, w, b, 2, 0)
	checkHas(t, d, 5, log(1, 1, a), log(2, 0, b))
	// several that fill it together
	c, e, f, g := sized(t, 3, 17), sized(t, 4, 17), sized(t, 5, 17), sized(t, 6, 14)
	for i, r := range []api.Record{c, e, f} {
		checkPut(t, w, r, 2, 13+17*i)
	}
	checkNow(t, w, 2, 64)
	checkPut(t, w, g, 3, 0)
	checkHas(t, d, 11, log(1, 1, a), log(2, 4, b, c, e, f), log(3, 0, g))
}

// What is longer than the limit stands alone, as the first one, behind others, and behind another one that is too long.
func TestPutOfFramesBeyondTheLimit(t *testing.T) {
	d := made(t, 100000)
	w := started(t, d, 64, 0)
	small, long := sized(t, 1, 13), sized(t, 2, 65)
	huge := put(3, strings.Repeat("\xa7", 64), strings.Repeat("\xa7", 2048))
	checkPut(t, w, huge, 1, 0)
	checkNow(t, w, 1, len(whole(huge)))
	checkHas(t, d, 2, log(1, 0, huge))
	checkPut(t, w, small, 2, 0)
	checkPut(t, w, small, 2, 13)
	checkPut(t, w, long, 3, 0)
	checkPut(t, w, huge, 4, 0)
	checkPut(t, w, long, 5, 0)
	checkPut(t, w, small, 6, 0)
	checkNow(t, w, 6, 13)
	checkHas(t, d, 18, log(1, 1, huge), log(2, 2, small, small), log(3, 1, long), log(4, 1, huge), log(5, 1, long), log(6, 0, small))
}

func TestPutUpToTheGreatestLimit(t *testing.T) {
	d := made(t, 4194304)
	w := started(t, d, 1048576, 0)
	for i := range 1024 {
		checkPut(t, w, sized(t, uint64(i+1), 1024), 1, 1024*i)
	}
	checkNow(t, w, 1, 1048576)
	if d.Acts() != 1025 {
		t.Errorf("%d acts", d.Acts())
	}
	checkPut(t, w, sized(t, 9, 13), 2, 0)
	if d.Acts() != 1028 || len(d.Lasting()[0].Data) != 1048576 {
		t.Errorf("%d acts, %d bytes last", d.Acts(), len(d.Lasting()[0].Data))
	}
}

// The segment is synced ahead of the next one's beginning only if something in it is not synced.
func TestPutIntoAnotherSegmentBehindASync(t *testing.T) {
	d := made(t, 1000)
	w := started(t, d, 64, 0)
	a, b, c := sized(t, 1, 40), sized(t, 2, 40), sized(t, 3, 40)
	checkPut(t, w, a, 1, 0)
	checkErrno(t, "Sync", w.Sync(), api.OK)
	checkPut(t, w, b, 2, 0)
	checkHas(t, d, 5, log(1, 1, a), log(2, 0, b))
	checkPut(t, w, c, 3, 0)
	checkHas(t, d, 8, log(1, 1, a), log(2, 1, b), log(3, 0, c))
}

// Numbers are taken by segments, hint files, and temp files of both; not by what is quarantine or other.
func TestPutBesideNamesThatAreTaken(t *testing.T) {
	a, b := sized(t, 1, 40), sized(t, 2, 40)
	for _, c := range []struct {
		taken       []string
		first, next uint32
	}{
		{nil, 1, 2},
		{[]string{"seg-00000001.hint"}, 2, 3},
		{[]string{"seg-00000001.log"}, 2, 3},
		{[]string{"seg-00000001.log.tmp"}, 2, 3},
		{[]string{"seg-00000001.hint.tmp"}, 2, 3},
		{[]string{"seg-00000002.log"}, 1, 3},
		{[]string{"seg-00000002.hint"}, 1, 3},
		{[]string{"seg-00000002.log.tmp", "seg-00000003.hint.tmp"}, 1, 4},
		{[]string{"seg-00000001.log", "seg-00000002.hint", "seg-00000003.log.tmp", "seg-00000004.hint.tmp", "seg-00000006.log"}, 5, 7},
		{[]string{"bad-00000001.bin", "bad-00000001.bin.tmp", "seg-00000001.log.tmp.tmp", "seg-00000001.LOG", "seg-1.log", "x", ".tmp", "seg-00000000.log", "seg-ffffffff.log"}, 1, 2},
	} {
		var files []api.File
		for _, name := range c.taken {
			files = append(files, file(name, "as it was"))
		}
		d := made(t, 1000, files...)
		w := started(t, d, 64, 0)
		checkPut(t, w, a, c.first, 0)
		checkPut(t, w, b, c.next, 0)
		checkNow(t, w, c.next, 40)
		names := 0
		for name, bytes := range d.All() {
			switch name {
			case segmentName(c.first), segmentName(c.next):
			default:
				names++
				if string(bytes) != "as it was" {
					t.Errorf("%s has %q", name, bytes)
				}
			}
		}
		if names != len(c.taken) || d.Acts() != 5 {
			t.Errorf("%d other files, %d acts", names, d.Acts())
		}
	}
}

// Segments that were there are left as they are, also where there would be room in them.
func TestPutLeavesOtherSegmentsAlone(t *testing.T) {
	d := made(t, 1000, file("seg-00000001.log", ""), file("seg-00000003.log", "x"))
	w := started(t, d, 64, 1)
	checkPut(t, w, put(1, "k", "v"), 2, 0)
	checkNow(t, w, 2, 14)
	again := started(t, d, 64, 1)
	checkPut(t, again, put(2, "k", "v"), 4, 0)
	checkPut(t, w, put(3, "k", "v"), 2, 14)
	if got := string(d.Files()[0].Data) + string(d.Files()[2].Data); got != "x" {
		t.Errorf("what was there has %q", got)
	}
}

// Which number is free is asked when a segment is begun: what was taken since is passed over, what came free is taken.
func TestPutIntoNamesThatComeAndGo(t *testing.T) {
	d := made(t, 1000)
	w := started(t, d, 64, 0)
	checkPut(t, w, sized(t, 1, 40), 1, 0)
	d.Create("seg-00000002.hint")
	checkPut(t, w, sized(t, 2, 40), 3, 0)
	d.Remove("seg-00000002.hint")
	checkPut(t, w, sized(t, 3, 40), 2, 0)
	d.Remove("seg-00000001.log")
	checkPut(t, w, sized(t, 4, 40), 1, 0)
	checkPut(t, w, sized(t, 5, 20), 1, 40)
	checkPut(t, w, sized(t, 6, 5+13), 4, 0)
	checkRead(t, d, place(1, 40, 20), sized(t, 5, 20), api.OK)
}
