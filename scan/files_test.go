package scan_test

import (
	"math"
	"runtime"
	"slices"
	"strconv"
	"strings"
	"testing"
	"time"

	"salvor/api"
	"salvor/scan"
)

// files are so many, of bytes of any sort, no two names alike.
func files(count int) []api.File {
	r := source()
	l := make([]api.File, count)
	for i := range l {
		l[i] = api.File{Name: "file" + strconv.Itoa(i), Data: anyBytes(r, r.Intn(12))}
	}
	return l
}

func sameExtents(a, b [][]api.Extent) bool { return slices.EqualFunc(a, b, slices.Equal) }

func checkFiles(t *testing.T, workers int, files ...api.File) {
	t.Helper()
	var want [][]api.Extent
	for _, f := range files {
		want = append(want, extentsByWords(f.Data))
	}
	got, errno := scan.Files(workers, files...)
	if errno != api.OK || !sameExtents(got, want) {
		t.Errorf("Files(%d) of %d files: %d, %v, want %v", workers, len(files), errno, got, want)
	}
}

func TestFilesAreCutAsTheirData(t *testing.T) {
	got, errno := scan.Files(2,
		api.File{Name: "a", Data: []byte(small + "xy")},
		api.File{Name: "b"},
		api.File{Name: "c", Data: []byte(lead + small + small)},
		api.File{Name: "d", Data: []byte("junk")},
	)
	want := [][]api.Extent{{isFrame(0, 14), isJunk(14, 2)}, {}, {isJunk(0, 1), isFrame(1, 14), isFrame(15, 14)}, {isJunk(0, 4)}}
	if errno != api.OK || !sameExtents(got, want) {
		t.Errorf("%d, %v, want %v", errno, got, want)
	}
}

// No file, one, as many as there are workers, one fewer, one more, and many more.
func TestFilesOfAnyCountByAnyWorkers(t *testing.T) {
	all := files(100)
	for workers := 1; workers <= 8; workers++ {
		for count := range 20 {
			checkFiles(t, workers, all[:count]...)
		}
		checkFiles(t, workers, all...)
	}
}

func TestFilesOfNone(t *testing.T) {
	for workers := 1; workers <= 8; workers++ {
		for _, none := range [][]api.File{nil, {}, files(3)[:0]} {
			if got, errno := scan.Files(workers, none...); len(got) > 0 || errno != api.OK {
				t.Errorf("Files(%d) of none: %v, %d", workers, got, errno)
			}
		}
		if got, errno := scan.Files(workers); len(got) > 0 || errno != api.OK {
			t.Errorf("Files(%d): %v, %d", workers, got, errno)
		}
	}
}

func TestFilesByWorkersThatMayNotBe(t *testing.T) {
	for _, workers := range []int{0, -1, 9, 10, -8, 16, 256, 257, 1 << 32, 1<<32 + 1, math.MinInt, math.MinInt + 1, math.MaxInt} {
		for _, count := range []int{0, 1, 20} {
			if got, errno := scan.Files(workers, files(count)...); len(got) > 0 || errno != api.ErrScanArg {
				t.Errorf("Files(%d) of %d files: %v, %d, want %d", workers, count, got, errno, api.ErrScanArg)
			}
		}
	}
}

func TestFilesLookAtNoName(t *testing.T) {
	l := files(30)
	for _, name := range []string{"", "x", "seg-00000001.log", "bad-00000001.bin", "a.tmp", "\x00/\xff", strings.Repeat("n", 1000)} {
		for i := range l {
			l[i].Name = name
		}
		checkFiles(t, 3, l...)
	}
	for i := range l { // some names stand twice, over data that is not the same
		l[i].Name = strconv.Itoa(i % 7)
	}
	checkFiles(t, 8, l...)
	checkFiles(t, 1, l...)
}

func TestFilesThatAreTheSame(t *testing.T) {
	f := api.File{Name: "a", Data: []byte("x" + small + small)}
	checkFiles(t, 8, slices.Repeat([]api.File{f}, 50)...)
	one := []byte("x" + small + lead + small + "yz")
	var parts []api.File // pieces of one list
	for i := range one {
		parts = append(parts, api.File{Name: "a", Data: one[i:]}, api.File{Name: "b", Data: one[:i]})
	}
	checkFiles(t, 5, parts...)
}

// However long each file takes, the answer stands in their order, and is whole when it comes.
func TestFilesStandInTheirOrder(t *testing.T) {
	long, short := []byte(strings.Repeat(small+"x", 2000)), []byte("x"+small)
	for round := range 40 {
		for _, workers := range []int{1, 2, 7, 8} {
			l := make([]api.File, 24)
			for i := range l {
				l[i].Data = short[i%2:]
				if i%6 == round%6 {
					l[i].Data = long[i%2:]
				}
			}
			got, errno := scan.Files(workers, l...)
			if errno != api.OK || len(got) != len(l) {
				t.Fatalf("%d extents, %d", len(got), errno)
			}
			for i, f := range l {
				if !slices.Equal(got[i], scan.Extents(f.Data)) {
					t.Fatalf("Files(%d): the file %d has %d extents", workers, i, len(got[i]))
				}
			}
		}
	}
}

func TestFilesLeaveNoGoroutineBehind(t *testing.T) {
	before := runtime.NumGoroutine()
	all := files(20)
	for range 100 {
		for _, workers := range []int{0, 1, 8, 9} {
			scan.Files(workers)
			scan.Files(workers, all[:1]...)
			scan.Files(workers, all...)
		}
	}
	// one that has told that it has ended may still be on its way out
	for end := time.Now().Add(10 * time.Second); runtime.NumGoroutine() > before; time.Sleep(time.Millisecond) {
		if time.Now().After(end) {
			t.Fatalf("%d goroutines, of which %d were there before", runtime.NumGoroutine(), before)
		}
	}
}
