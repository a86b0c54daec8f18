package vdisk_test

import (
	"bytes"
	"math"
	"strconv"
	"strings"
	"testing"

	"salvor/api"
	"salvor/vdisk"
)

func checkErrno(t *testing.T, what string, got, want api.Errno) {
	t.Helper()
	if got != want {
		t.Errorf("%s tells %d, want %d", what, got, want)
	}
}

// checkHas holds what a disk has (name=bytes, and | ahead of those that do not last), and how many acts there were.
func checkHas(t *testing.T, d *vdisk.Disk, acts int, want ...string) {
	t.Helper()
	var got []string
	lasting := d.Lasting()
	used := 0
	for i, f := range d.Files() {
		last := len(lasting[i].Data)
		got = append(got, f.Name+"="+string(lasting[i].Data)+"|"+string(f.Data[last:]))
		used += len(f.Data)
	}
	if g, w := strings.Join(got, " "), strings.Join(want, " "); g != w {
		t.Errorf("it has %q, want %q", g, w)
	}
	if d.Acts() != acts {
		t.Errorf("there were %d acts, want %d", d.Acts(), acts)
	}
	if d.Used() != used {
		t.Errorf("%d bytes are used, want %d", d.Used(), used)
	}
}

func TestCreate(t *testing.T) {
	d := made(t, 0, file("b", ""))
	checkErrno(t, "Create", d.Create("a"), api.OK)
	checkErrno(t, "Create of a file that is there", d.Create("a"), api.ErrDiskThere)
	checkErrno(t, "Create of a file that was there at first", d.Create("b"), api.ErrDiskThere)
	checkErrno(t, "Create of 60 bytes", d.Create(long(60)), api.OK)
	checkErrno(t, "Create of 61 bytes", d.Create(long(61)), api.ErrDiskArg)
	checkErrno(t, "Create of no name", d.Create(""), api.ErrDiskArg)
	checkHas(t, d, 2, "a=|", "b=|", long(60)+"=|")
	for c := range 256 {
		name := "any" + string([]byte{byte(c)})
		checkErrno(t, "Create of "+strconv.Quote(name), d.Create(name), api.OK)
		checkErrno(t, "Create again of "+strconv.Quote(name), d.Create(name), api.ErrDiskThere)
	}
}

// What is there is not emptied by a Create that is refused; what was removed can be created again, and is empty.
func TestCreateOfWhatWas(t *testing.T) {
	d := made(t, 10, file("a", "xyz"))
	checkErrno(t, "Create", d.Create("a"), api.ErrDiskThere)
	checkHas(t, d, 0, "a=xyz|")
	checkErrno(t, "Remove", d.Remove("a"), api.OK)
	checkErrno(t, "Create", d.Create("a"), api.OK)
	checkHas(t, d, 2, "a=|")
	checkErrno(t, "Append", d.Append("a", []byte("0123456789")), api.OK)
	checkErrno(t, "Rename", d.Rename("a", "b"), api.OK)
	checkErrno(t, "Create", d.Create("a"), api.OK)
	checkHas(t, d, 5, "a=|", "b=|0123456789")
}

// A disk is made with 200 files at most, but may come to have more.
func TestManyFiles(t *testing.T) {
	const count = 50000
	d := made(t, count)
	for i := range count {
		name := strconv.Itoa(i)
		if d.Create(name) != api.OK || d.Append(name, []byte{'x'}) != api.OK {
			t.Fatalf("file %d is refused", i)
		}
	}
	checkErrno(t, "Append", d.Append("0", []byte{'x'}), api.ErrDiskFull)
	if len(d.Names()) != count || d.Used() != count || d.Acts() != 2*count {
		t.Errorf("%d files, %d bytes, %d acts", len(d.Names()), d.Used(), d.Acts())
	}
	for i := range count {
		if d.Remove(strconv.Itoa(i)) != api.OK {
			t.Fatalf("file %d is not removed", i)
		}
	}
	checkHas(t, d, 3*count)
}

func TestAppend(t *testing.T) {
	d := made(t, 10, file("a", "ab"), file("b", ""))
	checkErrno(t, "Append", d.Append("a", []byte("c")), api.OK)
	checkErrno(t, "Append", d.Append("a", []byte("\x00\xff")), api.OK)
	checkErrno(t, "Append of nothing", d.Append("a", nil), api.OK)
	checkErrno(t, "Append of nothing", d.Append("b", []byte{}), api.OK)
	checkHas(t, d, 4, "a=ab|c\x00\xff", "b=|")
	checkErrno(t, "Append to no file", d.Append("c", []byte("x")), api.ErrDiskNone)
	checkErrno(t, "Append to no name", d.Append("", []byte("x")), api.ErrDiskArg)
	checkErrno(t, "Append to 61 bytes", d.Append(long(61), []byte("x")), api.ErrDiskArg)
	checkHas(t, d, 4, "a=ab|c\x00\xff", "b=|")
}

func TestAppendOfJustWhatThereIsRoomFor(t *testing.T) {
	for used := range 6 {
		l := []api.File{file("a", "12345"[:used]), file("b", "")}
		d := made(t, 5, l...)
		checkErrno(t, "Append of one more", d.Append("b", []byte("123456"[used:])), api.ErrDiskFull)
		checkErrno(t, "Append of far more", d.Append("b", make([]byte, 1<<20)), api.ErrDiskFull)
		checkHas(t, d, 0, "a="+"12345"[:used]+"|", "b=|")
		checkErrno(t, "Append of just as much", d.Append("b", []byte("12345"[used:])), api.OK)
		checkErrno(t, "Append to a full disk", d.Append("a", []byte("x")), api.ErrDiskFull)
		checkErrno(t, "Append of nothing to a full disk", d.Append("a", nil), api.OK)
		checkHas(t, d, 2, "a="+"12345"[:used]+"|", "b=|"+"12345"[used:])
	}
	d := made(t, 0, file("a", ""))
	checkErrno(t, "Append of nothing where no room is", d.Append("a", nil), api.OK)
	checkErrno(t, "Append of a byte where no room is", d.Append("a", []byte{0}), api.ErrDiskFull)
}

// What Remove, Truncate, Rename and Crash take away can be had again, to the byte.
func TestRoomThatComesBack(t *testing.T) {
	for what, free := range map[string]func(d *vdisk.Disk){
		"Remove":   func(d *vdisk.Disk) { d.Remove("b") },
		"Truncate": func(d *vdisk.Disk) { d.Truncate("b", 0) },
		"Rename":   func(d *vdisk.Disk) { d.Create("c"); d.Rename("c", "b") },
		"Crash":    func(d *vdisk.Disk) { d.Crash(0) },
	} {
		d := made(t, 10, file("a", "123"), file("b", ""))
		d.Append("b", []byte("1234567"))
		checkErrno(t, "Append ahead of "+what, d.Append("a", []byte("x")), api.ErrDiskFull)
		free(d)
		if d.Used() != 3 {
			t.Errorf("behind %s %d bytes are used", what, d.Used())
		}
		checkErrno(t, "Append behind "+what, d.Append("a", []byte("12345678")), api.ErrDiskFull)
		checkErrno(t, "Append behind "+what, d.Append("a", []byte("1234567")), api.OK)
		checkErrno(t, "Append behind "+what, d.Append("a", []byte("x")), api.ErrDiskFull)
	}
}

func TestAppendByteByByte(t *testing.T) {
	d := made(t, 4194304, file("a", ""))
	for i := range 4194304 {
		if errno := d.Append("a", []byte{byte(i % 251)}); errno != api.OK {
			t.Fatalf("byte %d: %d", i, errno)
		}
	}
	checkErrno(t, "Append of one more", d.Append("a", []byte{0}), api.ErrDiskFull)
	b, errno := d.Read("a", 0, math.MaxInt)
	if len(b) != 4194304 || errno != api.OK {
		t.Fatalf("Read gives %d bytes, %d", len(b), errno)
	}
	for i, c := range b {
		if c != byte(i%251) {
			t.Fatalf("byte %d is %d", i, c)
		}
	}
}

func TestSync(t *testing.T) {
	d := made(t, 20, file("a", "ab"), file("b", ""))
	d.Append("a", []byte("cd"))
	d.Append("b", []byte("x"))
	checkErrno(t, "Sync", d.Sync("a"), api.OK)
	checkHas(t, d, 3, "a=abcd|", "b=|x")
	checkErrno(t, "Sync once more", d.Sync("a"), api.OK)
	checkHas(t, d, 4, "a=abcd|", "b=|x")
	d.Append("a", []byte("e"))
	checkHas(t, d, 5, "a=abcd|e", "b=|x")
	checkErrno(t, "Sync of no file", d.Sync("c"), api.ErrDiskNone)
	checkErrno(t, "Sync of no name", d.Sync(""), api.ErrDiskArg)
	checkErrno(t, "Sync of 61 bytes", d.Sync(long(61)), api.ErrDiskArg)
	checkHas(t, d, 5, "a=abcd|e", "b=|x")
	checkErrno(t, "Sync", d.Sync("b"), api.OK)
	checkHas(t, d, 6, "a=abcd|e", "b=x|")
}

func TestRename(t *testing.T) {
	d := made(t, 20, file("a", "ab"), file("b", "xyz"))
	d.Append("a", []byte("cd"))
	checkErrno(t, "Rename onto itself", d.Rename("a", "a"), api.OK)
	checkHas(t, d, 2, "a=ab|cd", "b=xyz|")
	checkErrno(t, "Rename to a new name", d.Rename("a", "c"), api.OK)
	checkHas(t, d, 3, "b=xyz|", "c=ab|cd")
	checkErrno(t, "Rename of what is there no more", d.Rename("a", "b"), api.ErrDiskNone)
	checkErrno(t, "Rename of what is not there onto itself", d.Rename("a", "a"), api.ErrDiskNone)
	checkErrno(t, "Rename of what is not there to what is not there", d.Rename("a", "d"), api.ErrDiskNone)
	checkErrno(t, "Rename to 60 bytes", d.Rename("b", long(60)), api.OK)
	checkHas(t, d, 4, "c=ab|cd", long(60)+"=xyz|")
	checkErrno(t, "Rename onto another file", d.Rename("c", long(60)), api.OK)
	checkHas(t, d, 5, long(60)+"=ab|cd")
	for _, c := range [][2]string{{"", "a"}, {long(60), ""}, {long(60), long(61)}, {long(61), "a"}, {"", ""}, {"none", ""}, {"none", long(61)}, {long(61), long(61)}} {
		checkErrno(t, "Rename of a name that is none", d.Rename(c[0], c[1]), api.ErrDiskArg)
	}
	checkHas(t, d, 5, long(60)+"=ab|cd")
}

// Of two files one takes the other's place, whichever is longer, and whatever of each lasts.
func TestRenameOntoAnotherFile(t *testing.T) {
	for lasting := range 4 {
		for loose := range 4 {
			d := made(t, 20, file("a", "123"[:lasting]), file("b", "lasts"))
			d.Append("a", []byte("456"[:loose]))
			d.Append("b", []byte("?"))
			checkErrno(t, "Rename", d.Rename("a", "b"), api.OK)
			checkHas(t, d, 3, "b="+"123"[:lasting]+"|"+"456"[:loose])
			checkErrno(t, "Append to the name that was", d.Append("a", nil), api.ErrDiskNone)
			checkErrno(t, "Append", d.Append("b", []byte("7")), api.OK)
			checkHas(t, d, 4, "b="+"123"[:lasting]+"|"+"456"[:loose]+"7")
		}
	}
}

func TestRemove(t *testing.T) {
	d := made(t, 20, file("a", "ab"), file("b", "xyz"))
	d.Append("a", []byte("cd"))
	checkErrno(t, "Remove", d.Remove("a"), api.OK)
	checkHas(t, d, 2, "b=xyz|")
	checkErrno(t, "Remove once more", d.Remove("a"), api.ErrDiskNone)
	checkErrno(t, "Remove of no name", d.Remove(""), api.ErrDiskArg)
	checkErrno(t, "Remove of 61 bytes", d.Remove(long(61)), api.ErrDiskArg)
	checkHas(t, d, 2, "b=xyz|")
	checkErrno(t, "Remove", d.Remove("b"), api.OK)
	checkHas(t, d, 3)
}

func TestTruncate(t *testing.T) {
	for _, c := range []struct {
		n    int
		want string
	}{{0, "a=|"}, {1, "a=a|"}, {2, "a=ab|"}, {3, "a=abc|"}, {4, "a=abc|d"}, {5, "a=abc|de"}} {
		d := made(t, 20, file("a", "abc"), file("b", "xyz"))
		d.Append("a", []byte("de"))
		checkErrno(t, "Truncate", d.Truncate("a", c.n), api.OK)
		checkHas(t, d, 2, c.want, "b=xyz|")
		// what is cut off does not come back, and what is laid in its place does not last
		d.Append("a", []byte("!"))
		checkHas(t, d, 3, c.want+"!", "b=xyz|")
		d.Sync("a")
		d.Crash(9)
		checkHas(t, d, 4, strings.Replace(c.want, "|", "", 1)+"!|", "b=xyz|")
	}
	d := made(t, 20, file("a", "abc"), file("b", ""))
	for _, n := range []int{4, 5, 20, 21, 1 << 32, math.MaxInt, -1, -2, math.MinInt} {
		checkErrno(t, "Truncate to "+strconv.Itoa(n), d.Truncate("a", n), api.ErrDiskArg)
	}
	checkErrno(t, "Truncate of an empty file to 1", d.Truncate("b", 1), api.ErrDiskArg)
	checkErrno(t, "Truncate of no file", d.Truncate("c", 0), api.ErrDiskNone)
	checkErrno(t, "Truncate of no file to more", d.Truncate("c", 9), api.ErrDiskNone)
	checkErrno(t, "Truncate of no file to less than nothing", d.Truncate("c", -1), api.ErrDiskArg)
	checkErrno(t, "Truncate of no name", d.Truncate("", 0), api.ErrDiskArg)
	checkErrno(t, "Truncate of 61 bytes", d.Truncate(long(61), 0), api.ErrDiskArg)
	checkHas(t, d, 0, "a=abc|", "b=|")
	checkErrno(t, "Truncate of an empty file to 0", d.Truncate("b", 0), api.OK)
	checkHas(t, d, 1, "a=abc|", "b=|")
}

func checkRead(t *testing.T, d *vdisk.Disk, name string, at, n int, want string, errno api.Errno) {
	t.Helper()
	if b, e := d.Read(name, at, n); string(b) != want || e != errno {
		t.Errorf("Read(%q, %d, %d) = %q, %d, want %q, %d", name, at, n, b, e, want, errno)
	}
}

func TestRead(t *testing.T) {
	d := made(t, 20, file("a", "abc"), file("b", ""))
	d.Append("a", []byte("de")) // what does not last is read like what does
	whole := "abcde"
	count := 1
	for at := range 8 {
		for n := range 8 {
			from, to := min(at, 5), min(at+n, 5)
			checkRead(t, d, "a", at, n, whole[from:to], api.OK)
			checkRead(t, d, "b", at, n, "", api.OK)
			count += 2
		}
	}
	checkHas(t, d, count, "a=abc|de", "b=|")
}

func TestReadOfTheGreatestNumbers(t *testing.T) {
	d := made(t, 20, file("a", "abcde"))
	for _, n := range []int{5, 6, 1 << 31, 1<<32 + 1, 1 << 62, math.MaxInt - 1, math.MaxInt} {
		checkRead(t, d, "a", 0, n, "abcde", api.OK)
		checkRead(t, d, "a", 3, n, "de", api.OK)
		checkRead(t, d, "a", 5, n, "", api.OK)
		checkRead(t, d, "a", n, 1, "", api.OK)
		checkRead(t, d, "a", n, n, "", api.OK)
		checkRead(t, d, "a", n, math.MaxInt, "", api.OK)
		checkRead(t, d, "a", n, 0, "", api.OK)
	}
	for _, n := range []int{-1, -2, -1 << 32, math.MinInt + 1, math.MinInt} {
		checkRead(t, d, "a", n, 0, "", api.ErrDiskArg)
		checkRead(t, d, "a", n, 5, "", api.ErrDiskArg)
		checkRead(t, d, "a", 0, n, "", api.ErrDiskArg)
		checkRead(t, d, "a", 5, n, "", api.ErrDiskArg)
		checkRead(t, d, "a", n, n, "", api.ErrDiskArg)
		checkRead(t, d, "a", n, math.MaxInt, "", api.ErrDiskArg)
		checkRead(t, d, "a", math.MaxInt, n, "", api.ErrDiskArg)
		checkRead(t, d, "none", n, 0, "", api.ErrDiskArg)
		checkRead(t, d, "none", 0, n, "", api.ErrDiskArg)
	}
	checkRead(t, d, "none", 0, 0, "", api.ErrDiskNone)
	checkRead(t, d, "none", math.MaxInt, math.MaxInt, "", api.ErrDiskNone)
	checkRead(t, d, "", 0, 1, "", api.ErrDiskArg)
	checkRead(t, d, long(61), 0, 1, "", api.ErrDiskArg)
	checkHas(t, d, 7*7, "a=abcde|")
}

func TestReadOfEveryByte(t *testing.T) {
	all := make([]byte, 256)
	for i := range all {
		all[i] = byte(i)
	}
	d := made(t, 1000, file("a", string(all)))
	d.Append("a", all)
	for i, c := range bytes.Repeat(all, 2) {
		checkRead(t, d, "a", i, 1, string([]byte{c}), api.OK)
	}
}

// Several things are wrong: the first is told, and nothing is counted.
func TestTheFirstErrorOfAnAct(t *testing.T) {
	d := made(t, 3, file("a", "abc"))
	checkErrno(t, "Append to no name, of more than fits", d.Append("", []byte("x")), api.ErrDiskArg)
	checkErrno(t, "Append to no file, of more than fits", d.Append("b", []byte("x")), api.ErrDiskNone)
	checkErrno(t, "Append to a file, of more than fits", d.Append("a", []byte("x")), api.ErrDiskFull)
	checkErrno(t, "Rename of no file to no name", d.Rename("b", ""), api.ErrDiskArg)
	checkErrno(t, "Truncate of no name to more", d.Truncate("", 9), api.ErrDiskArg)
	checkErrno(t, "Truncate of no file to more", d.Truncate("b", 9), api.ErrDiskNone)
	checkErrno(t, "Truncate of no file to less than nothing", d.Truncate("b", -9), api.ErrDiskArg)
	checkRead(t, d, "b", -1, 1, "", api.ErrDiskArg)
	checkHas(t, d, 0, "a=abc|")
}

// everyAct asks for each of the seven of a disk that has a and no b: in ways that may be, and in wrong ones.
func everyAct() []call {
	return []call{
		{what: "Create", name: "b"}, {what: "Create", name: "a"}, {what: "Create"}, {what: "Create", name: long(61)},
		{what: "Append", name: "a", data: "x"}, {what: "Append", name: "a"}, {what: "Append", name: "b"}, {what: "Append"}, {what: "Append", name: "a", data: long(1000)},
		{what: "Sync", name: "a"}, {what: "Sync", name: "b"}, {what: "Sync"},
		{what: "Rename", name: "a", to: "b"}, {what: "Rename", name: "a", to: "a"}, {what: "Rename", name: "b", to: "a"}, {what: "Rename", name: "a"}, {what: "Rename", to: "a"},
		{what: "Remove", name: "a"}, {what: "Remove", name: "b"}, {what: "Remove"},
		{what: "Truncate", name: "a"}, {what: "Truncate", name: "a", a: 1}, {what: "Truncate", name: "a", a: 99}, {what: "Truncate", name: "a", a: -1}, {what: "Truncate", name: "b"}, {what: "Truncate"},
		{what: "Read", name: "a", b: 9}, {what: "Read", name: "a", a: -1}, {what: "Read", name: "a", b: -1}, {what: "Read", name: "b"}, {what: "Read"},
	}
}

func TestADiskThatIsDown(t *testing.T) {
	d := made(t, 20, file("a", "abc"))
	d.Append("a", []byte("de"))
	d.BreakAt(1, false)
	checkErrno(t, "Sync that breaks off", d.Sync("a"), api.ErrDiskDown)
	for _, c := range append(everyAct(), call{what: "Size", name: "a"}, call{what: "Size", name: "b"}, call{what: "Size"}, call{what: "Size", name: long(61)}) {
		if got := ask(d, c); got != (answer{errno: api.ErrDiskDown}) {
			t.Errorf("%v of a disk that is down: %v", c, got)
		}
	}
	checkHas(t, d, 2, "a=abc|de")
	if !d.Down() || d.Capacity() != 20 {
		t.Errorf("Down() = %v, Capacity() = %d", d.Down(), d.Capacity())
	}
}
