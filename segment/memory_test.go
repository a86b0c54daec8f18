package segment_test

import (
	"bytes"
	"runtime"
	"strings"
	"sync"
	"testing"

	"salvor/api"
	"salvor/segment"
	"salvor/vdisk"
)

// Print writes neither into the bytes, nor what stands ahead of them or behind, and keeps none.
func TestPrintLeavesItsBytesAlone(t *testing.T) {
	text := "ahead" + whole(put(1, "k", "v")) + "x" + whole(gone(2, "k")) + footFrame(1) + "behind"
	b := []byte(text)
	part := b[5 : len(b)-6]
	before := segment.Print(part)
	if string(b) != text {
		t.Errorf("it made of the bytes %x", b)
	}
	if again := segment.Print(part); again != before {
		t.Errorf("once more it tells %v, want %v", again, before)
	}
	clear(b)
	if after := segment.Print(part); after != (api.Print{Bytes: len(part), Sum: sumByWords(string(part))}) {
		t.Errorf("of noughts it tells %v", after)
	}
}

// A record that was told stays as it was, whatever becomes of the file; and what it tells is no piece of the disk.
func TestWhatReadToldStays(t *testing.T) {
	r := put(1, "key", "value")
	d := made(t, 1000, file(segmentName(1), whole(r)))
	p := place(1, 0, len(whole(r)))
	got, errno := segment.Read(d, p)
	checkErrno(t, "Read", errno, api.OK)
	d.Truncate(segmentName(1), 0)
	d.Append(segmentName(1), bytes.Repeat([]byte("x"), len(whole(r))))
	checkRead(t, d, p, api.Record{}, api.ErrSegmentNone)
	d.Remove(segmentName(1))
	if got != r {
		t.Errorf("it is %s now", said(got))
	}
}

// Texts are made of bytes that somebody may write into later; neither these nor the files hang together.
func TestWhatWasPutStays(t *testing.T) {
	key, value := []byte("key"), bytes.Repeat([]byte("v"), 100)
	r := put(1, string(key), string(value))
	d := made(t, 1000)
	w := started(t, d, 64, 0)
	checkPut(t, w, r, 1, 0)
	clear(key)
	clear(value)
	want := put(1, "key", strings.Repeat("v", 100))
	r.Key, r.Value = "other", "another"
	checkRead(t, d, place(1, 0, len(whole(want))), want, api.OK)
	for _, f := range d.Files() {
		clear(f.Data)
	}
	checkRead(t, d, place(1, 0, len(whole(want))), want, api.OK)
	checkHas(t, d, 4, log(1, 0, want))
}

// Places that were told stay as they were while the writer goes on.
func TestPlacesThatWereToldStay(t *testing.T) {
	d := made(t, 10000)
	w := started(t, d, 64, 0)
	a, errno := w.Put(sized(t, 1, 20))
	checkErrno(t, "Put", errno, api.OK)
	number, size := w.Now()
	for i := range 20 {
		if _, errno := w.Put(sized(t, uint64(i+2), 30)); errno != api.OK {
			t.Fatalf("Put: %d", errno)
		}
	}
	w.Close()
	if a != place(1, 0, 20) || number != 1 || size != 20 {
		t.Errorf("the place is %v, the segment at hand %d, %d", a, number, size)
	}
	checkRead(t, d, a, sized(t, 1, 20), api.OK)
}

// A writer keeps nothing of what was put, but the disk does.
func TestAWriterKeepsNoRecords(t *testing.T) {
	d := made(t, 4194304)
	w := started(t, d, 1048576, 0)
	var before, after runtime.MemStats
	runtime.GC()
	runtime.ReadMemStats(&before)
	for i := range 20000 {
		if _, errno := w.Put(put(uint64(i+1), "k", strings.Repeat("v", 2000))); errno != api.OK {
			t.Fatalf("Put: %d", errno)
		}
		if number, size := w.Now(); size > 1000000 { // room is made ahead of the next segment
			checkErrno(t, "Sync", w.Sync(), api.OK)
			checkErrno(t, "Truncate", d.Truncate(segmentName(number), 0), api.OK)
		}
	}
	runtime.GC()
	runtime.ReadMemStats(&after)
	if after.HeapAlloc > before.HeapAlloc+16<<20 {
		t.Errorf("%d bytes are kept", after.HeapAlloc-before.HeapAlloc)
	}
	runtime.KeepAlive(w)
}

// What is asked of unlike objects may come at the same time.
func TestWritersOfManyGoroutines(t *testing.T) {
	var group sync.WaitGroup
	b := []byte(strings.Repeat(whole(put(1, "k", "v"))+"x", 300))
	for range 8 {
		group.Add(1)
		go func() {
			defer group.Done()
			d, _ := vdisk.New(100000)
			w, _ := segment.Start(d, 64, 2)
			for i := range 200 {
				r := put(uint64(i+1), "k", strings.Repeat("v", i))
				p, errno := w.Put(r)
				if got, _ := segment.Read(d, p); errno != api.OK || got != r {
					t.Errorf("record %d: %v, %d", i, p, errno)
				}
			}
			if p := segment.Print(b); p.Frames != 300 {
				t.Errorf("Print = %v", p)
			}
		}()
	}
	group.Wait()
}

// No call leaves a goroutine behind.
func TestNoGoroutineIsLeft(t *testing.T) {
	before := runtime.NumGoroutine()
	d := made(t, 10000)
	w := started(t, d, 64, 1)
	for i := range 50 {
		w.Put(sized(t, uint64(i+1), 40))
	}
	segment.Print(bytes.Repeat([]byte(whole(put(1, "k", "v"))), 1000))
	w.Close()
	if after := runtime.NumGoroutine(); after > before {
		t.Errorf("%d goroutines, %d before", after, before)
	}
}
