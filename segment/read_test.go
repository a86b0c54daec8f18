package segment_test

import (
	"math"
	"strings"
	"testing"

	"salvor/api"
	"salvor/vdisk"
)

func place(number uint32, at, size int) api.Place {
	return api.Place{Segment: number, At: at, Len: size}
}

// What stands in the segment 10 of shelf's disk, one behind the other: a Put, three bytes, a Delete, a Hint, a Foot, a Put.
var (
	first  = put(1, "a", "x")
	second = gone(2, "b")
	last   = put(3, "c", "\xa7\xa6\x00")
)

func shelf(t *testing.T) (*vdisk.Disk, []int) {
	t.Helper()
	all := ""
	var places []int
	for _, part := range []string{whole(first), "\xa7\x00\x00", whole(second), hintFrame(1, "a"), footFrame(1), whole(last)} {
		places = append(places, len(all))
		all += part
	}
	places = append(places, len(all))
	return made(t, 10000, file("seg-0000000a.log", all), file("seg-0000000b.hint", all), file("seg-0000000c.log.tmp", all), file("seg-0000000A.log", "")), places
}

// checkActs wants something to ask for so many acts, and to change nothing.
func checkActs(t *testing.T, d *vdisk.Disk, want int, what func()) {
	t.Helper()
	acts, has := d.Acts(), row(d)
	what()
	if d.Acts()-acts != want {
		t.Errorf("it asked for %d acts, want %d", d.Acts()-acts, want)
	}
	if row(d) != has {
		t.Errorf("it made of the files\n%s", row(d))
	}
}

func TestReadOfRecords(t *testing.T) {
	d, at := shelf(t)
	for range 2 {
		checkActs(t, d, 3, func() {
			checkRead(t, d, place(10, at[0], 14), first, api.OK)
			checkRead(t, d, place(10, at[2], 12), second, api.OK)
			checkRead(t, d, place(10, at[5], at[6]-at[5]), last, api.OK)
		})
	}
}

func TestReadOfGreatRecords(t *testing.T) {
	r := put(math.MaxUint64, strings.Repeat("\xa7", 64), strings.Repeat("\xa6", 2048))
	f := whole(r)
	d := made(t, 4194304, file("seg-ffffffff.log", strings.Repeat("x", 4194304-len(f))+f))
	checkRead(t, d, place(math.MaxUint32, 4194304-len(f), len(f)), r, api.OK)
	checkRead(t, d, place(math.MaxUint32, 4194304-len(f), len(f)+1), api.Record{}, api.ErrSegmentNone)
	checkRead(t, d, place(math.MaxUint32, 0, 4194304), api.Record{}, api.ErrSegmentNone)
}

func TestReadWithArgumentsThatMayNotBe(t *testing.T) {
	d, _ := shelf(t)
	refuses := func() {
		for _, p := range []api.Place{
			{}, place(0, 0, 14), place(0, -1, 0), place(10, -1, 14), place(10, math.MinInt, 14), place(10, 0, 0), place(10, 0, -1), place(10, 0, math.MinInt), place(10, -14, 14),
			place(77, -1, 14), place(77, 0, 0), // also of a segment that there is not
		} {
			checkRead(t, d, p, api.Record{}, api.ErrSegmentArg)
		}
	}
	checkActs(t, d, 0, refuses)
	d.FailAt(1)
	checkActs(t, d, 0, refuses)
	d.BreakAt(1, false)
	d.Sync("seg-0000000a.log")
	checkActs(t, d, 0, refuses) // the disk is down now
}

// One byte too long or too short, ahead of a frame and within it, of two frames, of junk, behind the file's end, of other kinds.
func TestReadOfWhatIsNoRecord(t *testing.T) {
	d, at := shelf(t)
	end := at[6]
	wrong := []api.Place{
		place(10, 0, 1), place(10, 0, 13), place(10, 0, 15), place(10, 1, 13), place(10, 1, 14), place(10, 0, at[2]),
		place(10, at[1], 3), place(10, at[1], 1), place(10, at[2]-1, 13), place(10, at[2]-3, 15), place(10, at[2]-3, 12), place(10, at[2], 11), place(10, at[2], 13),
		place(10, at[3], at[4]-at[3]), place(10, at[4], at[5]-at[4]), place(10, at[2], at[4]-at[2]), place(10, at[4], at[6]-at[4]),
		place(10, at[5], end-at[5]-1), place(10, at[5], end-at[5]+1), place(10, at[5], end-at[5]+100), place(10, at[5], math.MaxInt),
		place(10, end-1, 1), place(10, end-1, 2), place(10, end, 1), place(10, end, 14), place(10, end+1, 1), place(10, end+5, 14),
		place(10, math.MaxInt, 1), place(10, math.MaxInt, math.MaxInt), place(10, 1<<62, 1<<62), place(10, 0, math.MaxInt), place(10, 0, end),
	}
	checkActs(t, d, len(wrong), func() {
		for _, p := range wrong {
			checkRead(t, d, p, api.Record{}, api.ErrSegmentNone)
		}
	})
	two := made(t, 100, file(segmentName(1), whole(first)+whole(second)), file(segmentName(2), ""))
	checkRead(t, two, place(1, 0, 26), api.Record{}, api.ErrSegmentNone)
	checkRead(t, two, place(1, 14, 12), second, api.OK)
	checkRead(t, two, place(2, 0, 14), api.Record{}, api.ErrSegmentNone)
}

// Of all places and lengths just the three records are some.
func TestReadEverywhere(t *testing.T) {
	d, at := shelf(t)
	records := map[api.Place]api.Record{place(10, at[0], 14): first, place(10, at[2], 12): second, place(10, at[5], at[6]-at[5]): last}
	for from := range at[6] + 3 {
		for size := 1; size < at[6]+3; size++ {
			p := place(10, from, size)
			if r, is := records[p]; is {
				checkRead(t, d, p, r, api.OK)
			} else {
				checkRead(t, d, p, api.Record{}, api.ErrSegmentNone)
			}
		}
	}
}

// A frame with a byte that is another one is no record.
func TestReadOfDamage(t *testing.T) {
	f := whole(put(300, "key", "value"))
	for i := range f {
		b := []byte(f)
		b[i] ^= 0x40
		d := made(t, 100, file(segmentName(1), string(b)))
		checkRead(t, d, place(1, 0, len(f)), api.Record{}, api.ErrSegmentNone)
	}
	checkRead(t, made(t, 100, file(segmentName(1), framed("\x01\x00\x01kv"))), place(1, 0, 14), api.Record{}, api.ErrSegmentNone) // the LSN 0
}

func TestReadOfAFileThatIsNotThere(t *testing.T) {
	d, _ := shelf(t)
	checkActs(t, d, 0, func() {
		for _, number := range []uint32{1, 9, 11, 12, 0xa0, 0xa0000000, math.MaxUint32} {
			checkRead(t, d, place(number, 0, 14), api.Record{}, api.ErrDiskNone)
		}
	})
}

func TestReadThatFails(t *testing.T) {
	d, _ := shelf(t)
	d.FailAt(1)
	checkActs(t, d, 1, func() { checkRead(t, d, place(10, 0, 14), api.Record{}, api.ErrDiskIO) })
	checkActs(t, d, 1, func() { checkRead(t, d, place(10, 0, 14), first, api.OK) })
	d.FailAt(1)
	checkActs(t, d, 0, func() { checkRead(t, d, place(11, 0, 14), api.Record{}, api.ErrDiskNone) }) // no act: the next one fails
	checkActs(t, d, 1, func() { checkRead(t, d, place(10, 3, 7), api.Record{}, api.ErrDiskIO) })
}

func TestReadThatBreaksOff(t *testing.T) {
	for _, done := range []bool{false, true} {
		d, _ := shelf(t)
		d.BreakAt(1, done)
		checkActs(t, d, 1, func() { checkRead(t, d, place(10, 0, 14), api.Record{}, api.ErrDiskDown) })
		checkActs(t, d, 0, func() {
			checkRead(t, d, place(10, 0, 14), api.Record{}, api.ErrDiskDown)
			checkRead(t, d, place(11, 0, 14), api.Record{}, api.ErrDiskDown)
			checkRead(t, d, place(10, 0, 0), api.Record{}, api.ErrSegmentArg)
		})
		d.Crash(0)
		checkActs(t, d, 1, func() { checkRead(t, d, place(10, 0, 14), first, api.OK) })
	}
}

// What was appended and does not last can be read, as long as it is there.
func TestReadOfWhatDoesNotLast(t *testing.T) {
	d := made(t, 100)
	w := started(t, d, 64, 0)
	checkPut(t, w, first, 1, 0)
	checkRead(t, d, place(1, 0, 14), first, api.OK)
	d.Crash(13)
	checkRead(t, d, place(1, 0, 14), api.Record{}, api.ErrSegmentNone)
}
