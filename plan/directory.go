package plan

import (
	"bytes"
	"maps"
	"slices"

	"salvor/api"
)

// directory is files as they are behind the steps so far. Their bytes are those that were handed in: nobody writes into them here.
type directory struct {
	data   [][]byte         // of each file, at its place in the list; what is no more leaves a place that no name has
	places map[string][]int // of each name the places of its files, from the front
	bytes  int              // that all files have together
	peak   int              // the most that these were
}

func directoryOf(files []api.File) *directory {
	d := &directory{places: map[string][]int{}}
	for _, file := range files {
		d.lay(file.Name, file.Data)
	}
	d.peak = d.bytes
	return d
}

// mayBe tells whether its files may be as a list.
func (d *directory) mayBe() bool {
	for name, places := range d.places {
		if !isName(name) || len(places) > 1 {
			return false
		}
	}
	return d.bytes <= api.MaxDisk
}

func isName(name string) bool { return len(name) >= 1 && len(name) <= api.MaxName }

func (d *directory) has(name string) bool { return len(d.places[name]) > 0 }

// told is its files by names, each in new memory; no name may stand twice.
func (d *directory) told() []api.File {
	var files []api.File
	for _, name := range slices.Sorted(maps.Keys(d.places)) {
		files = append(files, api.File{Name: name, Data: bytes.Clone(d.dataOf(name))})
	}
	return files
}

// dataOf is the bytes of the first file of a name that is there.
func (d *directory) dataOf(name string) []byte { return d.data[d.places[name][0]] }

// lay puts a file at the end of the list.
func (d *directory) lay(name string, data []byte) {
	d.places[name] = append(d.places[name], len(d.data))
	d.data = append(d.data, data)
	d.bytes += len(data)
}

// forget takes its name from the first file of a name that is there, and tells the file's place.
func (d *directory) forget(name string) int {
	places := d.places[name]
	if len(places) == 1 {
		delete(d.places, name)
	} else {
		d.places[name] = places[1:]
	}
	return places[0]
}

// stepKind is how steps of one kind are done.
type stepKind struct {
	makes bool                                   // it makes the file Name, which must not be there; for all others it must
	do    func(d *directory, step api.Step) bool // false: it cannot be done, and nothing has changed
}

// stepKinds has for each Op how such steps are done; where there is none, it has nothing.
func stepKinds() [api.StepTruncate + 1]stepKind {
	return [...]stepKind{
		api.StepRemove:   {do: (*directory).remove},
		api.StepWrite:    {do: (*directory).write, makes: true},
		api.StepSync:     {do: (*directory).sync},
		api.StepRename:   {do: (*directory).rename},
		api.StepTruncate: {do: (*directory).truncate},
	}
}

// do does a step; false, if it cannot be done: then nothing has changed.
func (d *directory) do(step api.Step) bool {
	if step.Op < api.StepRemove || step.Op > api.StepTruncate || !isName(step.Name) {
		return false
	}
	kind := stepKinds()[step.Op]
	if d.has(step.Name) == kind.makes || !kind.do(d, step) {
		return false
	}
	d.peak = max(d.peak, d.bytes)
	return true
}

func (d *directory) remove(step api.Step) bool {
	d.bytes -= len(d.data[d.forget(step.Name)])
	return true
}

func (d *directory) write(step api.Step) bool {
	d.lay(step.Name, step.Data)
	return true
}

// sync changes nothing: what lasts is the disk's affair.
func (d *directory) sync(api.Step) bool { return true }

func (d *directory) rename(step api.Step) bool {
	if !isName(step.To) {
		return false
	}
	if step.To == step.Name {
		return true
	}
	if d.has(step.To) {
		d.remove(api.Step{Name: step.To})
	}
	at := d.forget(step.Name)
	others := d.places[step.To]
	i, _ := slices.BinarySearch(others, at)
	d.places[step.To] = slices.Insert(others, i, at) // it stays at its place, so that it may be ahead of others of its new name
	return true
}

func (d *directory) truncate(step api.Step) bool {
	at := d.places[step.Name][0]
	size := len(d.data[at])
	if step.N < 0 || step.N > size {
		return false
	}
	d.data[at] = d.data[at][:step.N]
	d.bytes -= size - step.N
	return true
}
