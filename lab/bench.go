package lab

import (
	"slices"
	"strconv"

	"salvor/api"
	"salvor/store"
	"salvor/vdisk"
)

// bench is what a script works at: a disk, and the store on it, if there is one.
type bench struct {
	disk  *vdisk.Disk
	store *store.Store
}

func newBench() *bench {
	b := &bench{}
	b.take(vdisk.New(api.MaxDisk))
	return b
}

// take puts a new disk in the place of what there is, if there may be such a one.
func (b *bench) take(d *vdisk.Disk, errno api.Errno) string {
	if errno == api.OK {
		*b = bench{disk: d}
	}
	return doneOr(errno)
}

func (b *bench) makeDisk(a args) string { return b.take(vdisk.New(a.numbers[0])) }

func (b *bench) open(a args) string {
	c := api.Config{Fast: a.numbers[0] == 1, Limit: a.numbers[1], Every: a.numbers[2]}
	s, report, err := store.Open(b.disk, c)
	b.store = s
	if err != nil {
		return doneOrFailed(err)
	}
	return lineOf("ok", strconv.Itoa(len(s.Keys())), strconv.FormatUint(report.Top, 10), strconv.Itoa(report.Frames), strconv.Itoa(report.Junk))
}

func (b *bench) fail(a args) string { return doneOr(b.disk.FailAt(a.numbers[0])) }

func (b *bench) breakOff(a args) string {
	return doneOr(b.disk.BreakAt(a.numbers[0], a.numbers[1] == 1))
}

func (b *bench) crash(a args) string {
	b.store = nil
	return doneOr(b.disk.Crash(a.numbers[0]))
}

// find is a file's bytes, to be changed at will.
func (b *bench) find(name string) ([]byte, api.Errno) {
	for one, data := range b.disk.All() {
		if one == name {
			return data, api.OK
		}
	}
	return nil, api.ErrDiskNone
}

// others are all files but those of some names.
func (b *bench) others(names ...string) []api.File {
	isOne := func(f api.File) bool { return slices.Contains(names, f.Name) }
	return slices.DeleteFunc(b.disk.Files(), isOne)
}

// renew is a disk of the same capacity in the place of what there is.
func (b *bench) renew(files ...api.File) string {
	return b.take(vdisk.New(b.disk.Capacity(), files...))
}

// set has a file be there, in the place of one of its name.
func (b *bench) set(name string, data []byte) string {
	return b.renew(append(b.others(name), api.File{Name: name, Data: data})...)
}

func (b *bench) lay(a args) string { return b.set(a.texts[0], []byte(a.texts[1])) }

func (b *bench) flip(a args) string {
	name, at := a.texts[0], a.numbers[0]
	data, errno := b.find(name)
	if errno == api.OK && at >= len(data) {
		errno = api.ErrDiskArg
	}
	if errno != api.OK {
		return doneOr(errno)
	}
	data[at] ^= byte(a.numbers[1])
	return b.set(name, data)
}

func (b *bench) cut(a args) string {
	name, size := a.texts[0], a.numbers[0]
	data, errno := b.find(name)
	if errno == api.OK && size > len(data) {
		errno = api.ErrDiskArg
	}
	if errno != api.OK {
		return doneOr(errno)
	}
	return b.set(name, data[:size])
}

func (b *bench) lose(a args) string {
	name := a.texts[0]
	if _, errno := b.find(name); errno != api.OK {
		return doneOr(errno)
	}
	return b.renew(b.others(name)...)
}

func (b *bench) copy(a args) string {
	data, errno := b.find(a.texts[0])
	if errno != api.OK {
		return doneOr(errno)
	}
	return b.set(a.texts[1], data)
}

func (b *bench) move(a args) string {
	from, to := a.texts[0], a.texts[1]
	data, errno := b.find(from)
	if errno != api.OK {
		return doneOr(errno)
	}
	return b.renew(append(b.others(from, to), api.File{Name: to, Data: data})...)
}

func (b *bench) files(args) string {
	words := []string{"files"}
	for name, data := range b.disk.All() {
		words = append(words, wordOf(name), strconv.Itoa(len(data)))
	}
	return lineOf(words...)
}

func (b *bench) read(a args) string {
	data, errno := b.find(a.texts[0])
	if errno != api.OK {
		return doneOr(errno)
	}
	return lineOf("=", wordOf(string(data)))
}

func (b *bench) used(args) string { return lineOf("used", strconv.Itoa(b.disk.Used())) }
