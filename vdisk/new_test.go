package vdisk_test

import (
	"bytes"
	"math"
	"runtime"
	"slices"
	"strconv"
	"testing"

	"salvor/api"
	"salvor/vdisk"
)

// checkNew holds which error New tells, and that it gives a disk only without one.
func checkNew(t *testing.T, want api.Errno, capacity int, files ...api.File) {
	t.Helper()
	d, errno := vdisk.New(capacity, files...)
	if errno != want || (d == nil) != (want != api.OK) {
		t.Errorf("New(%d, %d files) = %v, %d, want %d", capacity, len(files), d != nil, errno, want)
	}
}

// manyFiles have no bytes, and each a name of its own.
func manyFiles(count int) []api.File {
	l := make([]api.File, count)
	for i := range l {
		l[i].Name = "file " + strconv.Itoa(i)
	}
	return l
}

func TestTheNumbersOfErrors(t *testing.T) {
	got := []api.Errno{api.ErrDiskArg, api.ErrDiskNone, api.ErrDiskThere, api.ErrDiskFull, api.ErrDiskIO, api.ErrDiskDown}
	if !slices.Equal(got, []api.Errno{70, 71, 72, 73, 74, 75}) {
		t.Errorf("they are %v", got)
	}
	checkNew(t, 70, -1)
	checkNew(t, 72, 1, file("a", ""), file("a", ""))
	checkNew(t, 73, 0, file("a", "x"))
}

func TestNewOfCapacities(t *testing.T) {
	for _, n := range []int{0, 1, 2, 4194303, 4194304} {
		checkNew(t, api.OK, n)
		if d := made(t, n); d.Capacity() != n || d.Used() != 0 || len(d.Names()) != 0 {
			t.Errorf("of %d bytes: Capacity() = %d, Used() = %d, Names() = %q", n, d.Capacity(), d.Used(), d.Names())
		}
	}
	for _, n := range []int{-1, -2, 4194305, 8388608, 1<<32 + 1, math.MaxInt, math.MinInt, math.MinInt + 1} {
		checkNew(t, api.ErrDiskArg, n)
		checkNew(t, api.ErrDiskArg, n, file("a", ""))
	}
}

func TestNewOfCountsOfFiles(t *testing.T) {
	for _, count := range []int{0, 1, 2, 199, 200} {
		d := made(t, 0, manyFiles(count)...)
		if n := len(d.Names()); n != count {
			t.Errorf("of %d files it has %d", count, n)
		}
	}
	for _, count := range []int{201, 202, 400, 1000} {
		checkNew(t, api.ErrDiskArg, 10, manyFiles(count)...)
	}
	checkNew(t, api.OK, 10, []api.File(nil)...)
	checkNew(t, api.OK, 10, []api.File{}...)
}

func TestNewOfNames(t *testing.T) {
	for _, count := range []int{1, 2, 59, 60} {
		checkNew(t, api.OK, 10, file(long(count), "x"))
	}
	for _, count := range []int{0, 61, 62, 120, 256, 257, 1 << 16, 1<<16 + 1} {
		checkNew(t, api.ErrDiskArg, 10, file(long(count), "x"))
		for at := range 4 { // wherever it stands
			l := slices.Insert(manyFiles(3), at, file(long(count), ""))
			checkNew(t, api.ErrDiskArg, 10, l...)
		}
	}
	checkNew(t, api.OK, 10, file("ééééééééééééééééééééééééééééé", ""))           // 58 bytes
	checkNew(t, api.ErrDiskArg, 10, file("ééééééééééééééééééééééééééééééé", "")) // 62 bytes, though fewer letters
}

func TestNewOfNamesOfAnyBytes(t *testing.T) {
	var l []api.File
	for c := range 256 {
		name := string([]byte{byte(c)})
		checkNew(t, api.OK, 10, file(name, "x"))
		if c >= 100 {
			l = append(l, file(name, ""))
		}
	}
	d := made(t, 10, l...)
	for i, name := range d.Names() {
		if name != l[i].Name {
			t.Errorf("name %d is %q, want %q", i, name, l[i].Name)
		}
	}
	for _, name := range []string{"/", "..", "a/b", "\x00", "\n", " ", "\xff\xfe", "\xc3", "seg-00000001.log", "x.tmp"} {
		made(t, 10, file(name, "x"))
	}
}

func TestNewOfTwoFilesOfOneName(t *testing.T) {
	for i := range 5 {
		for k := range i {
			l := manyFiles(5)
			l[i].Name = l[k].Name
			checkNew(t, api.ErrDiskThere, 10, l...)
		}
	}
	checkNew(t, api.ErrDiskThere, 10, file("a", "x"), file("a", "x"))
	checkNew(t, api.ErrDiskThere, 10, file("a", "x"), file("a", "y"))
	checkNew(t, api.ErrDiskThere, 10, file(long(60), ""), file(long(60), "y"))
	checkNew(t, api.OK, 10, file("a", ""), file("A", ""), file("a ", ""), file("aa", ""), file("a\x00", ""), file("é", ""), file("e\u0301", ""))
}

func TestNewOfJustAsManyBytesAndOneMore(t *testing.T) {
	checkNew(t, api.OK, 0, file("a", ""), file("b", ""))
	checkNew(t, api.ErrDiskFull, 0, file("a", "x"))
	checkNew(t, api.OK, 5, file("a", "12345"))
	checkNew(t, api.ErrDiskFull, 5, file("a", "123456"))
	checkNew(t, api.OK, 5, file("a", "12"), file("c", ""), file("b", "345"))
	checkNew(t, api.ErrDiskFull, 5, file("a", "12"), file("c", ""), file("b", "3456"))
	checkNew(t, api.ErrDiskFull, 5, file("a", "123"), file("b", "456"))
	checkNew(t, api.ErrDiskFull, 5, file("a", "123456"), file("b", ""))
	whole := bytes.Repeat([]byte{'w'}, 4194304)
	checkNew(t, api.OK, 4194304, api.File{Name: "a", Data: whole})
	checkNew(t, api.ErrDiskFull, 4194303, api.File{Name: "a", Data: whole})
	checkNew(t, api.ErrDiskFull, 4194304, api.File{Name: "a", Data: whole}, file("b", "x"))
	checkNew(t, api.OK, 4194304, api.File{Name: "a", Data: whole[1:]}, file("b", "x"))
}

// allocated is how much memory something asks for.
func allocated(do func()) uint64 {
	var before, after runtime.MemStats
	runtime.ReadMemStats(&before)
	do()
	runtime.ReadMemStats(&after)
	return after.TotalAlloc - before.TotalAlloc
}

// Files that do not fit may have any number of bytes: these are not copied.
func TestNewOfFarMoreThanFits(t *testing.T) {
	b := make([]byte, 1<<24)
	l := manyFiles(200)
	for i := range l {
		l[i].Data = b
	}
	count := allocated(func() {
		checkNew(t, api.ErrDiskFull, 4194304, l...)
		l[199].Name = l[0].Name
		checkNew(t, api.ErrDiskThere, 4194304, l...)
	})
	if count > 1<<24 {
		t.Errorf("%d bytes were asked for", count)
	}
}

func TestTheFirstErrorOfNew(t *testing.T) {
	twice := []api.File{file("a", "xy"), file("a", "z")}
	checkNew(t, api.ErrDiskThere, 1, twice...)
	checkNew(t, api.ErrDiskArg, -1, twice...)
	checkNew(t, api.ErrDiskArg, 4194305, twice...)
	checkNew(t, api.ErrDiskArg, 1, append(twice, file("", ""))...)
	checkNew(t, api.ErrDiskArg, 1, append([]api.File{file(long(61), "")}, twice...)...)
	checkNew(t, api.ErrDiskArg, 1, file("", ""), file("", ""))
	checkNew(t, api.ErrDiskArg, 1, file("", "xy"))
	checkNew(t, api.ErrDiskArg, 1, file("a", "xy"), file("", ""))
	checkNew(t, api.ErrDiskArg, 1, append(manyFiles(199), twice...)...)
	checkNew(t, api.ErrDiskThere, 1, append(manyFiles(198), twice...)...)
	checkNew(t, api.ErrDiskFull, 0, append(manyFiles(199), file("a", "x"))...)
	checkNew(t, api.ErrDiskArg, 0, append(manyFiles(200), file("a", "x"))...)
}

// All bytes last; the disk is up, and armed for nothing.
func TestWhatNewGives(t *testing.T) {
	d := made(t, 20, file("b", "xyz"), file("c", ""), api.File{Name: "d"}, file("a", "\x00\xff"))
	all := `"a" "\x00\xff";"b" "xyz";"c" "";"d" "";`
	if got, want := toldBy(d), (tells{`["a" "b" "c" "d"]`, all, all, 5, 20, false}); got != want {
		t.Errorf("it tells %+v, want %+v", got, want)
	}
	if d.Acts() != 0 {
		t.Errorf("there were %d acts", d.Acts())
	}
	for range 1000 {
		if errno := d.Sync("a"); errno != api.OK {
			t.Fatalf("Sync tells %d", errno)
		}
	}
	d.Crash(0)
	if got := row(d.Files()); got != all {
		t.Errorf("behind a crash it has %s", got)
	}
}
