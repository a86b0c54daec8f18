package segment_test

import (
	"fmt"
	"math"
	"math/rand"
	"strings"
	"testing"

	"salvor/api"
	"salvor/segment"
	"salvor/vdisk"
)

// call is one that is asked of one of several writers, or of their disk.
type call struct {
	what     string
	of       int
	record   api.Record
	place    api.Place
	name, to string
	a, b     int
	done     bool
}

func (c call) String() string {
	switch c.what {
	case "Put":
		return fmt.Sprintf("%d.Put(%s)", c.of, said(c.record))
	case "Sync", "Close":
		return fmt.Sprintf("%d.%s()", c.of, c.what)
	case "Start":
		return fmt.Sprintf("%d = Start(%d, %d)", c.of, c.a, c.b)
	case "Read":
		return fmt.Sprintf("Read(%v)", c.place)
	case "FailAt", "Crash":
		return fmt.Sprintf("%s(%d)", c.what, c.a)
	case "BreakAt":
		return fmt.Sprintf("BreakAt(%d, %v)", c.a, c.done)
	}
	return fmt.Sprintf("%s(%q, %q, %d)", c.what, c.name, c.to, c.a)
}

// writing is what a writer and its paper both can do.
type writing interface {
	Put(r api.Record) (api.Place, api.Errno)
	Sync() api.Errno
	Now() (uint32, int)
	Close() api.Errno
}

// desk is a disk, and some writers on it.
type desk struct {
	disk    *vdisk.Disk
	writers []writing
	start   func(d *vdisk.Disk, limit, every int) writing // nil, if it may not be
	read    func(d *vdisk.Disk, p api.Place) (api.Record, api.Errno)
}

// answer is what came of a call.
type answer struct {
	place  api.Place
	record api.Record
	errno  api.Errno
}

func (a answer) String() string { return fmt.Sprintf("%v, %s, %d", a.place, said(a.record), a.errno) }

func (k *desk) ask(c call) answer {
	d := k.disk
	switch c.what {
	case "Put":
		p, errno := k.writers[c.of].Put(c.record)
		return answer{place: p, errno: errno}
	case "Sync":
		return answer{errno: k.writers[c.of].Sync()}
	case "Close":
		return answer{errno: k.writers[c.of].Close()}
	case "Start":
		if w := k.start(d, c.a, c.b); w != nil {
			k.writers[c.of] = w
			return answer{}
		}
		return answer{errno: api.ErrSegmentArg}
	case "Read":
		r, errno := k.read(d, c.place)
		return answer{record: r, errno: errno}
	case "FailAt":
		return answer{errno: d.FailAt(c.a)}
	case "BreakAt":
		return answer{errno: d.BreakAt(c.a, c.done)}
	case "Crash":
		return answer{errno: d.Crash(c.a)}
	case "Create":
		return answer{errno: d.Create(c.name)}
	case "Remove":
		return answer{errno: d.Remove(c.name)}
	case "Rename":
		return answer{errno: d.Rename(c.name, c.to)}
	case "Append":
		return answer{errno: d.Append(c.name, []byte(c.to))}
	case "Truncate":
		return answer{errno: d.Truncate(c.name, c.a)}
	}
	panic(c.what)
}

// told is all that is to be seen.
func (k *desk) told() string {
	var nows []string
	for _, w := range k.writers {
		number, size := w.Now()
		nows = append(nows, fmt.Sprintf("%d, %d", number, size))
	}
	return fmt.Sprintf("%s\n%d acts, down: %v, at hand: %s", row(k.disk), k.disk.Acts(), k.disk.Down(), strings.Join(nows, "; "))
}

// readByWords reads a record as the chapter's words have it: a frame is what is written so.
func readByWords(d *vdisk.Disk, p api.Place) (api.Record, api.Errno) {
	if p.Segment == 0 || p.At < 0 || p.Len < 1 {
		return api.Record{}, api.ErrSegmentArg
	}
	b, errno := d.Read(segmentName(p.Segment), p.At, p.Len)
	if errno != api.OK {
		return api.Record{}, errno
	}
	for _, r := range shelved() {
		if whole(r) == string(b) && len(b) == p.Len {
			return r, api.OK
		}
	}
	return api.Record{}, api.ErrSegmentNone
}

// shelved are the records that the runs put (but for those that may not be): few, so that a frame can be looked up among them.
func shelved() []api.Record {
	return []api.Record{
		put(1, "k", ""), put(2, "k", "v"), gone(3, "k"), put(4, "\xa7", "\xa6\xa7"), put(5, "k", strings.Repeat("v", 17)), put(6, "k", strings.Repeat("v", 37)),
		put(7, "k", strings.Repeat("v", 51)), put(8, "k", strings.Repeat("v", 52)), put(9, "k", strings.Repeat("v", 100)), gone(1<<64-1, strings.Repeat("k", 64)),
	}
}

func spoiltRecords() []api.Record {
	return []api.Record{{}, put(0, "k", "v"), put(1, "", "v"), {LSN: 1, Kind: api.Foot, Key: "k"}, put(1, "k", strings.Repeat("v", 2049))}
}

func newDesks(t *testing.T, capacity, writers int, files ...api.File) (real, onPaper *desk) {
	t.Helper()
	real = &desk{disk: made(t, capacity, files...), writers: make([]writing, writers), read: segment.Read}
	real.start = func(d *vdisk.Disk, limit, every int) writing {
		if w, errno := segment.Start(d, limit, every); errno == api.OK {
			return w
		}
		return nil
	}
	onPaper = &desk{disk: made(t, capacity, files...), writers: make([]writing, writers), read: readByWords}
	onPaper.start = func(d *vdisk.Disk, limit, every int) writing {
		if limit < 64 || limit > 1048576 || every < 0 || every > 1000 {
			return nil
		}
		return &paper{disk: d, limit: limit, every: every}
	}
	return real, onPaper
}

// checkRun asks all calls of a run, whose first ones start all writers, and holds all that is to be seen against paper.
func checkRun(t *testing.T, capacity, writers int, files []api.File, run []call) {
	t.Helper()
	real, paper := newDesks(t, capacity, writers, files...)
	for i, c := range run {
		got, want := real.ask(c), paper.ask(c)
		if got != want {
			t.Fatalf("with %d bytes: %v: %v, want %v", capacity, run[:i+1], got, want)
		}
		if i < writers-1 {
			continue
		}
		if got, want := real.told(), paper.told(); got != want {
			t.Fatalf("with %d bytes, behind %v there is\n%s\nwant\n%s", capacity, run[:i+1], got, want)
		}
	}
}

// Every run of four out of these, on one writer of each sort: whatever is armed, taken away, or given back in between.
func TestEveryRunOfFour(t *testing.T) {
	shelf := shelved()
	some := []call{
		{what: "Put", record: shelf[4]}, {what: "Put", record: shelf[5]}, {what: "Put", record: shelf[8]}, {what: "Put", record: api.Record{}},
		{what: "Sync"}, {what: "Close"}, {what: "Read", place: place(1, 0, len(whole(shelf[4])))},
		{what: "FailAt", a: 1}, {what: "FailAt", a: 2}, {what: "BreakAt", a: 1, done: true}, {what: "BreakAt", a: 2}, {what: "Crash", a: 20},
		{what: "Remove", name: segmentName(1)}, {what: "Create", name: segmentName(1)}, {what: "Create", name: "seg-00000002.hint"}, {what: "Append", name: segmentName(1), to: "x"},
	}
	for _, every := range []int{0, 1, 2} {
		eachOfFour(some, func(four []call) {
			checkRun(t, 120, 1, nil, append([]call{{what: "Start", a: 64, b: every}, some[0]}, four...))
		})
	}
}

func eachOfFour(some []call, do func(four []call)) {
	for _, a := range some {
		for _, b := range some {
			for _, c := range some {
				for _, d := range some {
					do([]call{a, b, c, d})
				}
			}
		}
	}
}

var someNames = []string{segmentName(1), segmentName(2), segmentName(3), "seg-00000002.hint", "seg-00000004.log.tmp", "bad-00000001.bin", "x"}

func anyCall(r *rand.Rand, writers int) call {
	c := call{of: r.Intn(writers), name: pick(r, someNames...), to: pick(r, someNames...), done: r.Intn(2) == 0}
	c.what = pick(r, "Put", "Put", "Put", "Put", "Put", "Put", "Put", "Put", "Sync", "Sync", "Read", "Read", "FailAt", "BreakAt", "Crash", "Close", "Start", "Create", "Remove", "Rename", "Append", "Truncate")
	switch c.what {
	case "Put":
		c.record = pick(r, shelved()...)
		if r.Intn(12) == 0 {
			c.record = pick(r, spoiltRecords()...)
		}
	case "Read":
		c.place = place(pick[uint32](r, 0, 1, 1, 2, 2, 3, 4, 5), pick(r, -1, 0, 0, 0, 0, 13, 14, 26, 30), pick(r, 0, 12, 13, 14, 30, 50, math.MaxInt))
	case "FailAt", "BreakAt":
		c.a = 1 + r.Intn(12)
	case "Crash":
		c.a = pick(r, -1, 0, 1, 10, 20, 30, 100)
	case "Start":
		c.a, c.b = pick(r, 63, 64, 65, 100, 100, 200, 1048576, 1048577), pick(r, -1, 0, 0, 1, 2, 3, 1000, 1001)
	case "Truncate":
		c.a = r.Intn(30)
	}
	return c
}

// eachRun are the same runs for every test that asks for them.
func eachRun(do func(capacity, writers int, files []api.File, run []call)) {
	r := source()
	for i := range 4000 {
		writers := 1 + r.Intn(3)
		var files []api.File
		for _, name := range someNames {
			if r.Intn(6) == 0 {
				files = append(files, file(name, pick(r, "", "x", whole(shelved()[2]))))
			}
		}
		var run []call
		for w := range writers {
			run = append(run, call{what: "Start", of: w, a: pick(r, 64, 64, 100, 200), b: r.Intn(4)})
		}
		for range i % 50 {
			run = append(run, anyCall(r, writers))
		}
		do(pick(r, 100, 200, 500, 100000), writers, files, run)
	}
}

func TestRunsOfAnyCalls(t *testing.T) {
	eachRun(func(capacity, writers int, files []api.File, run []call) { checkRun(t, capacity, writers, files, run) })
}

// Of every call each answer comes up that it can give: else the runs would test little.
func TestTheRunsHaveEveryAnswer(t *testing.T) {
	type came struct {
		what  string
		errno api.Errno
	}
	count := map[came]int{}
	eachRun(func(capacity, writers int, files []api.File, run []call) {
		_, paper := newDesks(t, capacity, writers, files...)
		for _, c := range run {
			count[came{c.what, paper.ask(c).errno}]++
		}
	})
	for what, answers := range map[string][]api.Errno{
		"Put":   {api.OK, api.ErrSegmentShut, api.ErrFrameKind, api.ErrFrameLSN, api.ErrFrameKey, api.ErrFrameArg, api.ErrFrameValue, api.ErrDiskFull, api.ErrDiskIO, api.ErrDiskDown, api.ErrDiskNone},
		"Sync":  {api.OK, api.ErrSegmentShut, api.ErrDiskIO, api.ErrDiskDown, api.ErrDiskNone},
		"Close": {api.OK, api.ErrSegmentShut, api.ErrDiskIO, api.ErrDiskDown, api.ErrDiskNone},
		"Read":  {api.OK, api.ErrSegmentArg, api.ErrSegmentNone, api.ErrDiskIO, api.ErrDiskDown, api.ErrDiskNone},
		"Start": {api.OK, api.ErrSegmentArg},
	} {
		for _, errno := range answers {
			if count[came{what, errno}] < 10 {
				t.Errorf("%s tells %d: %d times", what, errno, count[came{what, errno}])
			}
		}
	}
}
