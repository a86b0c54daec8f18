package vdisk_test

import (
	"bytes"
	"math"
	"runtime"
	"slices"
	"strconv"
	"sync"
	"testing"

	"salvor/api"
	"salvor/vdisk"
)

// spoil writes into a list, and into its spare room.
func spoil(b []byte) {
	b = b[:cap(b)]
	for i := range b {
		b[i] ^= 0xff
	}
}

// spoilFiles writes into files, into their bytes, and into the spare room of both.
func spoilFiles(l []api.File) {
	for _, f := range l {
		spoil(f.Data)
	}
	l = l[:cap(l)]
	for i := range l {
		l[i] = file("changed", "changed")
	}
}

// roomy is files with bytes of others ahead of theirs and behind, in lists with others ahead and behind.
func roomy() (all, given []api.File, room []byte) {
	room = []byte("0123456789abcdefghij")
	all = []api.File{
		{Name: "z", Data: room[:1]},
		{Name: "b", Data: room[2:5]}, {Name: "a", Data: room[7:9]}, {Name: "c", Data: room[9:9]}, {Name: "d", Data: room[2:5]},
		{Name: "y", Data: room[18:]}, {Name: "x", Data: nil},
	}
	return all, all[1:5], room
}

const roomyTold = `"a" "78";"b" "234";"c" "";"d" "234";`

func sameFiles(a, b []api.File) bool {
	return slices.EqualFunc(a, b, func(f, g api.File) bool { return f.Name == g.Name && bytes.Equal(f.Data, g.Data) })
}

// everyCallOf asks for everything that a disk can do.
func everyCallOf(d *vdisk.Disk, name string, data []byte) {
	d.Append(name, data)
	d.Append(name, data[:0])
	d.Sync(name)
	d.Append(name, data)
	d.Truncate(name, 1)
	d.Append(name, data)
	d.Read(name, 0, 9)
	d.Rename(name, "other")
	d.Append("other", data)
	d.FailAt(1)
	d.Append("other", data)
	d.Crash(1)
	d.Append("other", data)
	d.BreakAt(1, true)
	d.Append("other", data)
	d.Append("other", data)
	d.Crash(1)
	d.Append("none", data)
	d.Remove("other")
}

func TestNothingHandedInIsChanged(t *testing.T) {
	for _, capacity := range []int{100, 8, 7, -1} { // some refused
		all, given, room := roomy()
		wantAll, _, wantRoom := roomy()
		d, _ := vdisk.New(capacity, given...)
		if d != nil {
			for _, name := range d.Names() {
				everyCallOf(d, name, room[3:6])
			}
		}
		if !bytes.Equal(room, wantRoom) || !sameFiles(all, wantAll) {
			t.Errorf("of a disk of %d bytes: %q, %v", capacity, room, all)
		}
	}
}

func TestNothingHandedInIsKept(t *testing.T) {
	all, given, room := roomy()
	d := made(t, 100, given...)
	spoil(room)
	spoilFiles(all)
	if got := row(d.Files()); got != roomyTold {
		t.Errorf("it has %s, want %s", got, roomyTold)
	}
	data := []byte("0123456789")
	d.Append("c", data[2:5]) // the first bytes of a file, and later ones
	spoil(data)
	d.Append("b", data[2:5])
	spoil(data)
	d.Append("b", data[:2])
	spoil(data)
	if got, want := row(d.Files()), `"a" "78";"b" "234\xcd\xcc\xcb01";"c" "234";"d" "234";`; got != want {
		t.Errorf("it has %s, want %s", got, want)
	}
}

// Files that were handed in with one and the same bytes are two.
func TestFilesOfTheSameBytesShareNothing(t *testing.T) {
	b := make([]byte, 3, 50)
	copy(b, "abc")
	d := made(t, 100, api.File{Name: "a", Data: b}, api.File{Name: "b", Data: b}, api.File{Name: "c", Data: b[:2]})
	d.Append("a", []byte("1"))
	d.Append("b", []byte("2"))
	d.Append("c", []byte("3"))
	d.Truncate("a", 1)
	d.Append("a", []byte("456"))
	checkHas(t, d, 5, "a=a|456", "b=abc|2", "c=ab|3")
}

// lists are all those that a disk gives out.
type lists struct {
	names          []string
	files, lasting []api.File
	ranged         []api.File
	read           [][]byte
}

func listsOf(d *vdisk.Disk) lists {
	l := lists{names: d.Names(), files: d.Files(), lasting: d.Lasting(), ranged: ranged(d)}
	for _, name := range l.names {
		for _, at := range []int{0, 1, 99} {
			b, _ := d.Read(name, at, math.MaxInt)
			c, _ := d.Read(name, at, 1)
			l.read = append(l.read, b, c)
		}
	}
	return l
}

// blocks are the bytes of all lists, with their spare room.
func (l lists) blocks() [][]byte {
	var all [][]byte
	for _, files := range [][]api.File{l.files, l.lasting, l.ranged} {
		for _, f := range files {
			all = append(all, f.Data[:cap(f.Data)])
		}
	}
	for _, b := range l.read {
		all = append(all, b[:cap(b)])
	}
	return all
}

func (l lists) spoil() {
	for i := range l.names[:cap(l.names)] {
		l.names[:cap(l.names)][i] = "changed"
	}
	spoilFiles(l.files)
	spoilFiles(l.lasting)
	spoilFiles(l.ranged)
	for _, b := range l.read {
		spoil(b)
	}
}

func (l lists) told() []string {
	told := slices.Concat(l.names, []string{row(l.files), row(l.lasting), row(l.ranged)})
	for _, b := range l.read {
		told = append(told, string(b))
	}
	return told
}

// laid is a disk whose files have come to their bytes in many ways.
func laid(t *testing.T) *vdisk.Disk {
	t.Helper()
	d := made(t, 1000, file("a", "abc"), file("b", ""), file("c", "a longer text than the others have"))
	d.Append("a", []byte("defgh"))
	d.Create("d")
	d.Append("d", []byte("1234567890123456789"))
	d.Sync("d")
	d.Truncate("d", 10)
	d.Create("e")
	d.Append("e", []byte("xyz"))
	d.Rename("e", "f")
	d.Append("f", []byte("0123456789"))
	d.Truncate("f", 5)
	d.Append("c", []byte("..."))
	return d
}

func TestNothingThatComesOutIsKept(t *testing.T) {
	for _, crash := range []bool{false, true} {
		d := laid(t)
		if crash {
			d.Crash(2)
		}
		want := toldBy(d)
		listsOf(d).spoil()
		if got := toldBy(d); got != want {
			t.Errorf("once lists were written into it tells %+v, want %+v", got, want)
		}
		// nor does what is laid behind a file's bytes show up in what was written there
		for _, name := range d.Names() {
			d.Append(name, []byte("+"))
		}
		listsOf(d).spoil()
		for _, name := range d.Names() {
			size, _ := d.Size(name)
			d.Truncate(name, size-1)
		}
		if got := toldBy(d); got != want {
			t.Errorf("behind acts and once lists were written into it tells %+v, want %+v", got, want)
		}
	}
}

// What was told stays as it is, whatever becomes of the disk, and so does its spare room.
func TestActsDoNotChangeWhatWasTold(t *testing.T) {
	d := laid(t)
	l := listsOf(d)
	want := l.told()
	var spare [][]byte
	for _, b := range l.blocks() {
		spare = append(spare, bytes.Clone(b))
	}
	for _, name := range d.Names() {
		everyCallOf(d, name, []byte("?!?!?!?!?!?!?!?!?!?!?!?!?!?!?!?!"))
	}
	if !slices.Equal(l.told(), want) {
		t.Errorf("what was told is now %q, want %q", l.told(), want)
	}
	for i, b := range l.blocks() {
		if !bytes.Equal(b, spare[i]) {
			t.Errorf("block %d is now %q, was %q", i, b, spare[i])
		}
	}
}

// No two lists have memory in common, spare room and all: of one answer, and of several.
func TestListsShareNothing(t *testing.T) {
	d := laid(t)
	one, other := listsOf(d), listsOf(d)
	blocks := append(one.blocks(), other.blocks()...)
	for i, b := range blocks {
		for k := range b {
			b[k] = byte(i)
		}
	}
	for i, b := range blocks {
		for _, c := range b {
			if c != byte(i) {
				t.Fatalf("the blocks %d and %d share memory", i, c)
			}
		}
	}
	spoilFiles(one.files)
	spoilFiles(one.ranged)
	spoilFiles(one.lasting)
	one.names[0] = "changed"
	for i, f := range other.files {
		if name := d.Names()[i]; f.Name != name || other.lasting[i].Name != name || other.names[i] != name {
			t.Errorf("name %d is %q, %q, %q", i, f.Name, other.lasting[i].Name, other.names[i])
		}
	}
}

// What an iterator has handed over may be kept and written into, while it goes on.
func TestWhatAnIteratorHandsOver(t *testing.T) {
	d := laid(t)
	want := d.Files()
	var kept [][]byte
	at := 0
	for name, b := range d.All() {
		if name != want[at].Name || !bytes.Equal(b, want[at].Data) {
			t.Errorf("file %d is %q with %q", at, name, b)
		}
		spoil(b)
		kept = append(kept, b)
		at++
	}
	for i, b := range kept {
		spoil(b)
		if !bytes.Equal(b, want[i].Data) {
			t.Errorf("what was handed over of file %d is now %q", i, b)
		}
	}
	if !sameFiles(d.Files(), want) {
		t.Errorf("it has %s", row(d.Files()))
	}
}

func TestTwoDisksHaveNothingToDoWithOneAnother(t *testing.T) {
	_, given, _ := roomy()
	d, other := made(t, 100, given...), made(t, 50, given...)
	want := toldBy(other)
	for _, name := range d.Names() {
		everyCallOf(d, name, []byte("xyz"))
	}
	d.FailAt(1)
	d.Create("a")
	d.BreakAt(1, false)
	d.Create("a")
	if got := toldBy(other); got != want || other.Acts() != 0 {
		t.Errorf("the other one tells %+v, want %+v", got, want)
	}
	if !d.Down() {
		t.Error("the first one is up")
	}
	checkErrno(t, "an act of the other one", other.Append("c", []byte("x")), api.OK)
	other.Crash(0)
	if !d.Down() || len(d.Names()) != 0 {
		t.Errorf("the first one: Down() = %v, Names() = %q", d.Down(), d.Names())
	}
	if got := toldBy(other); got != want {
		t.Errorf("the other one tells %+v, want %+v", got, want)
	}
}

// Runs on many disks, a call of each in turn, come to what they come to alone.
func TestRunsOnManyDisksInTurn(t *testing.T) {
	r := source()
	type running struct {
		d   *vdisk.Disk
		p   *paper
		run []call
	}
	var all []running
	for range 50 {
		capacity, files, run := anyRun(r, 60)
		all = append(all, running{made(t, capacity, files...), newPaper(capacity, files...), run})
	}
	for i := range 60 {
		for _, one := range all {
			if got, want := ask(one.d, one.run[i]), one.p.ask(one.run[i]); got != want {
				t.Fatalf("%v: %v, want %v", one.run[:i+1], got, want)
			}
		}
	}
	for _, one := range all {
		checkTold(t, one.d, one.p, one.run)
	}
}

// Disks at the same time, one a goroutine; and many that look at one.
func TestDisksAtOnce(t *testing.T) {
	var group sync.WaitGroup
	var wrong [8]int
	shared := laid(t)
	want := toldBy(shared)
	for i := range wrong {
		group.Go(func() {
			d, errno := vdisk.New(1000, file("a", ""))
			if errno != api.OK {
				wrong[i]++
				return
			}
			for k := range 200 {
				if d.Append("a", []byte{byte(i)}) != api.OK || d.Used() != k+1 {
					wrong[i]++
				}
				if k%20 == 0 && toldBy(shared) != want {
					wrong[i]++
				}
			}
			if b, _ := d.Read("a", 0, 200); !bytes.Equal(b, bytes.Repeat([]byte{byte(i)}, 200)) {
				wrong[i]++
			}
		})
	}
	group.Wait()
	if wrong != [8]int{} {
		t.Errorf("wrong answers of each goroutine: %v", wrong)
	}
}

// A disk keeps no more than its files have: bytes that were cut off, lost or removed are given back.
func TestBytesThatAreNoMoreAreNotKept(t *testing.T) {
	b := make([]byte, 4194304)
	for what, free := range map[string]func(d *vdisk.Disk, name string){
		"Truncate": func(d *vdisk.Disk, name string) { d.Truncate(name, 1) },
		"Crash":    func(d *vdisk.Disk, name string) { d.Crash(1) },
		"Remove":   func(d *vdisk.Disk, name string) { d.Remove(name) },
		"Rename":   func(d *vdisk.Disk, name string) { d.Create("0"); d.Rename("0", name) },
	} {
		d := made(t, 4194304)
		var before, after runtime.MemStats
		runtime.GC()
		runtime.ReadMemStats(&before)
		for i := range 20 {
			name := "file " + strconv.Itoa(i)
			d.Create(name)
			checkErrno(t, "Append", d.Append(name, b[:len(b)-20]), api.OK)
			free(d, name)
		}
		runtime.GC()
		runtime.ReadMemStats(&after)
		if after.HeapAlloc > before.HeapAlloc+3*4194304 {
			t.Errorf("behind %s: %d bytes are kept", what, after.HeapAlloc-before.HeapAlloc)
		}
		if d.Used() > 20 {
			t.Errorf("behind %s: %d bytes are used", what, d.Used())
		}
	}
}
