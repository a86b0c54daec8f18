package segment_test

import (
	"testing"

	"salvor/api"
	"salvor/segment"
	"salvor/vdisk"
)

// lasting is how many bytes of all files last.
func lasting(d *vdisk.Disk) int {
	sum := 0
	for _, f := range d.Lasting() {
		sum += len(f.Data)
	}
	return sum
}

// puts writes records of 20 bytes, and wants so many bytes to last behind each.
func puts(t *testing.T, d *vdisk.Disk, w *segment.Writer, want ...int) {
	t.Helper()
	for i, n := range want {
		if _, errno := w.Put(sized(t, uint64(i+1), 20)); errno != api.OK {
			t.Fatalf("record %d: %d", i, errno)
		}
		if lasting(d) != n {
			t.Fatalf("behind record %d: %d bytes last, want %d", i, lasting(d), n)
		}
	}
}

func TestEvery(t *testing.T) {
	for every := range 12 {
		d := made(t, 10000)
		w := started(t, d, 1048576, every)
		acts := 1
		for i := 1; i <= 40; i++ {
			checkPut(t, w, sized(t, uint64(i), 20), 1, 20*(i-1))
			acts++
			want := 0
			if every > 0 {
				want = 20 * (i / every) * every
				if i%every == 0 {
					acts++
				}
			}
			if lasting(d) != want || d.Acts() != acts {
				t.Fatalf("every %d, behind record %d: %d bytes last, %d acts, want %d, %d", every, i, lasting(d), d.Acts(), want, acts)
			}
		}
	}
}

func TestEveryOfTheGreatest(t *testing.T) {
	d := made(t, 4194304)
	w := started(t, d, 1048576, 1000)
	for i := 1; i <= 2100; i++ {
		if _, errno := w.Put(sized(t, uint64(i), 20)); errno != api.OK {
			t.Fatalf("record %d: %d", i, errno)
		}
		if want := i / 1000; d.Acts() != 1+i+want {
			t.Fatalf("behind record %d there were %d acts", i, d.Acts())
		}
	}
	if lasting(d) != 40000 {
		t.Errorf("%d bytes last", lasting(d))
	}
}

// Three records of 20 bytes to a segment of 64: what is synced when a segment is left begins the count anew.
func TestEveryAcrossSegments(t *testing.T) {
	for every, want := range [][]int{
		1: {20, 40, 60, 80, 100, 120, 140, 160},
		2: {0, 40, 40, 60, 100, 100, 120, 160},
		3: {0, 0, 60, 60, 60, 120, 120, 120},
		4: {0, 0, 0, 60, 60, 60, 120, 120},
		5: {0, 0, 0, 60, 60, 60, 120, 120},
	} {
		d := made(t, 10000)
		w := started(t, d, 64, every)
		puts(t, d, w, want...)
	}
}

// The syncs are no more than are asked for: a segment that was synced by every is left without another one.
func TestEveryAndTheActsAcrossSegments(t *testing.T) {
	for every, syncs := range []int{2, 8, 5, 2, 2} {
		d := made(t, 10000)
		w := started(t, d, 64, every)
		for i := range 8 {
			w.Put(sized(t, uint64(i+1), 20))
		}
		if want := 3 + 8 + syncs; d.Acts() != want {
			t.Errorf("every %d: %d acts, want %d", every, d.Acts(), want)
		}
	}
}

// A Sync begins the count anew; what was refused, or found no room, is no record.
func TestEveryCountsRecordsSinceTheLastSync(t *testing.T) {
	d := made(t, 170)
	w := started(t, d, 1000, 3)
	puts(t, d, w, 0, 0)
	checkErrno(t, "Sync", w.Sync(), api.OK)
	puts(t, d, w, 40, 40)
	checkNoPut(t, w, put(0, "k", "v"), api.ErrFrameLSN)
	checkNoPut(t, w, sized(t, 9, 91), api.ErrDiskFull)
	if lasting(d) != 40 {
		t.Errorf("%d bytes last", lasting(d))
	}
	checkErrno(t, "Sync of somebody else", d.Sync(segmentName(1)), api.OK) // of which the writer knows nothing
	puts(t, d, w, 100)
	checkErrno(t, "Sync", w.Sync(), api.OK)
	puts(t, d, w, 100, 100)
	if d.Acts() != 1+4+1+1+1+1+2 {
		t.Errorf("%d acts", d.Acts())
	}
}
