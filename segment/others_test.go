package segment_test

import (
	"testing"

	"salvor/api"
)

// The segment at hand is taken away: that is told by what asks for something, and breaks nothing.
func TestSomebodyTakesTheSegmentAway(t *testing.T) {
	d := made(t, 1000)
	w := started(t, d, 64, 0)
	a, b := sized(t, 1, 20), sized(t, 2, 30)
	checkPut(t, w, a, 1, 0)
	checkErrno(t, "Rename", d.Rename(segmentName(1), "away"), api.OK)
	for range 2 {
		checkActs(t, d, 0, func() {
			checkNoPut(t, w, b, api.ErrDiskNone)                // it would be appended
			checkNoPut(t, w, sized(t, 2, 60), api.ErrDiskNone)  // the segment would be left, and synced
			checkNoPut(t, w, sized(t, 2, 999), api.ErrDiskNone) // that there is no room is told behind
			checkErrno(t, "Sync", w.Sync(), api.ErrDiskNone)
		})
		checkNow(t, w, 1, 20)
	}
	checkErrno(t, "Rename", d.Rename("away", segmentName(1)), api.OK)
	checkPut(t, w, b, 1, 20)
	checkErrno(t, "Sync", w.Sync(), api.OK)
	checkHas(t, d, 6, log(1, 2, a, b))
}

// Where nothing of it is unsynced, nothing asks for it when another one is begun; the number may be the same.
func TestSomebodyTakesASyncedSegmentAway(t *testing.T) {
	d := made(t, 1000)
	w := started(t, d, 64, 1)
	a, b := sized(t, 1, 20), sized(t, 2, 60)
	checkPut(t, w, a, 1, 0)
	checkErrno(t, "Remove", d.Remove(segmentName(1)), api.OK)
	checkActs(t, d, 0, func() {
		checkErrno(t, "Sync of nothing", w.Sync(), api.OK)
		checkNoPut(t, w, a, api.ErrDiskNone)
	})
	checkNow(t, w, 1, 20)
	checkPut(t, w, b, 1, 0)
	checkNow(t, w, 1, 60)
	checkHas(t, d, 7, log(1, 1, b))
}

func TestCloseOfASegmentThatIsNoMore(t *testing.T) {
	d := made(t, 1000)
	w := started(t, d, 64, 0)
	checkPut(t, w, sized(t, 1, 20), 1, 0)
	checkErrno(t, "Remove", d.Remove(segmentName(1)), api.OK)
	checkActs(t, d, 0, func() { checkErrno(t, "Close", w.Close(), api.ErrDiskNone) })
	checkShut(t, d, w)
	checkNow(t, w, 1, 20)
}

// A record that was not written, since the file was no more, is not counted for every.
func TestEveryBesideASegmentThatIsNoMore(t *testing.T) {
	d := made(t, 1000)
	w := started(t, d, 1000, 2)
	checkPut(t, w, sized(t, 1, 20), 1, 0)
	d.Rename(segmentName(1), "away")
	checkNoPut(t, w, sized(t, 2, 20), api.ErrDiskNone)
	d.Rename("away", segmentName(1))
	if lasting(d) != 0 {
		t.Errorf("%d bytes last", lasting(d))
	}
	checkPut(t, w, sized(t, 2, 20), 1, 20)
	if lasting(d) != 40 {
		t.Errorf("%d bytes last", lasting(d))
	}
}

// A writer counts what it has laid down itself, whatever the file has.
func TestSomebodyWritesIntoTheSegment(t *testing.T) {
	d := made(t, 1000)
	w := started(t, d, 64, 0)
	a, b, c := sized(t, 1, 20), sized(t, 2, 20), sized(t, 3, 24)
	checkPut(t, w, a, 1, 0)
	checkErrno(t, "Append", d.Append(segmentName(1), []byte("xyz")), api.OK)
	checkNow(t, w, 1, 20)
	checkPut(t, w, b, 1, 20)
	checkRead(t, d, place(1, 20, 20), api.Record{}, api.ErrSegmentNone)
	checkRead(t, d, place(1, 23, 20), b, api.OK)
	checkPut(t, w, c, 1, 40) // 64 bytes of its own: they fit
	checkNow(t, w, 1, 64)
	if got, want := string(d.Files()[0].Data), whole(a)+"xyz"+whole(b)+whole(c); got != want {
		t.Errorf("it has %x, want %x", got, want)
	}
	checkErrno(t, "Sync", w.Sync(), api.OK)
	if d.Acts() != 8 || lasting(d) != 67 { // two of them are the reads
		t.Errorf("%d acts, %d bytes last", d.Acts(), lasting(d))
	}
}

func TestSomebodyCutsTheSegmentOff(t *testing.T) {
	d := made(t, 1000)
	w := started(t, d, 64, 0)
	a, b, c := sized(t, 1, 20), sized(t, 2, 20), sized(t, 3, 30)
	checkPut(t, w, a, 1, 0)
	checkErrno(t, "Truncate", d.Truncate(segmentName(1), 0), api.OK)
	checkNow(t, w, 1, 20)
	checkPut(t, w, b, 1, 20)
	checkHas(t, d, 4, log(1, 0, b))
	checkPut(t, w, c, 2, 0)
	checkHas(t, d, 7, log(1, 1, b), log(2, 0, c))
}

// A crash that its acts did not come upon is nothing that a writer sees.
func TestACrashBetweenTwoCalls(t *testing.T) {
	d := made(t, 1000)
	w := started(t, d, 64, 2)
	a, b, c := sized(t, 1, 20), sized(t, 2, 20), sized(t, 3, 20)
	checkPut(t, w, a, 1, 0)
	d.Crash(0)
	checkNow(t, w, 1, 20)
	checkPut(t, w, b, 1, 20) // with which it has two since the last sync
	checkHas(t, d, 4, log(1, 1, b))
	checkPut(t, w, c, 1, 40)
	checkErrno(t, "Close", w.Close(), api.OK)
	checkHas(t, d, 6, log(1, 2, b, c))
}

// Somebody else takes the next number: writers know of one another by the names on the disk alone.
func TestSeveralWritersOnOneDisk(t *testing.T) {
	d := made(t, 1000)
	u, v, w := started(t, d, 64, 0), started(t, d, 100, 2), started(t, d, 64, 1)
	a, b, c := sized(t, 1, 40), sized(t, 2, 40), sized(t, 3, 40)
	checkPut(t, u, a, 1, 0)
	checkPut(t, v, b, 2, 0)
	checkPut(t, w, c, 3, 0)
	checkHas(t, d, 7, log(1, 0, a), log(2, 0, b), log(3, 1, c))
	checkPut(t, u, b, 4, 0)
	checkPut(t, v, c, 2, 40)
	checkPut(t, w, a, 5, 0)
	checkNow(t, u, 4, 40)
	checkNow(t, v, 2, 80)
	checkNow(t, w, 5, 40)
	checkHas(t, d, 15, log(1, 1, a), log(2, 2, b, c), log(3, 1, c), log(4, 0, b), log(5, 1, a))
	// one that is broken or closed is no matter to the others
	d.FailAt(1)
	checkNoPut(t, v, a, api.ErrDiskIO)
	checkShut(t, d, v)
	checkErrno(t, "Close", w.Close(), api.OK)
	checkPut(t, u, sized(t, 4, 24), 4, 40)
	checkPut(t, u, a, 6, 0)
	checkShut(t, d, w)
	checkNow(t, u, 6, 40)
}

// Writers on two disks have nothing to do with each other.
func TestWritersOnTwoDisks(t *testing.T) {
	one, other := made(t, 1000), made(t, 1000)
	v, w := started(t, one, 64, 2), started(t, other, 64, 2)
	a, b := sized(t, 1, 40), sized(t, 2, 40)
	checkPut(t, v, a, 1, 0)
	checkHas(t, other, 0)
	checkPut(t, w, b, 1, 0)
	checkPut(t, v, b, 2, 0)
	one.FailAt(1)
	checkErrno(t, "Sync", v.Sync(), api.ErrDiskIO)
	checkErrno(t, "Sync", w.Sync(), api.OK)
	checkHas(t, one, 6, log(1, 1, a), log(2, 0, b))
	checkHas(t, other, 3, log(1, 1, b))
	checkNow(t, v, 2, 40)
	checkNow(t, w, 1, 40)
}
