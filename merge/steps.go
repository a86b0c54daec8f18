package merge

import (
	"bytes"
	"slices"

	"salvor/api"
	"salvor/frame"
	"salvor/hint"
	"salvor/names"
)

// segmentsOf are the bytes of segments of at most so many bytes that have these records, in their order. (A frame that is longer stands in one alone.)
func segmentsOf(size int, records ...api.Record) [][]byte {
	var segments [][]byte
	for _, r := range records {
		b, _ := frame.Encode(frame.Of(r)) // not refused, as it came out of a frame
		last := len(segments) - 1
		if last < 0 || len(segments[last])+len(b) > size {
			segments = append(segments, b)
		} else {
			segments[last] = append(segments[last], b...)
		}
	}
	return segments
}

// stepsBetween are the steps that lay down new segments beside some files, and take the old ones away; none, if these are the same.
func stepsBetween(files, old []api.File, segments [][]byte) []api.Step {
	same := func(file api.File, segment []byte) bool { return bytes.Equal(file.Data, segment) }
	if slices.EqualFunc(old, segments, same) {
		return nil
	}
	there := namesOf(files)
	fresh := freshOnes(there)
	var steps []api.Step
	for _, segment := range segments {
		steps = append(steps, addition(fresh(), segment)...)
	}
	for _, file := range old {
		steps = append(steps, removal(file.Name, there)...)
	}
	return steps
}

type nameSet map[string]struct{}

func (s nameSet) has(name string) bool {
	_, there := s[name]
	return there
}

func namesOf(files []api.File) nameSet {
	there := make(nameSet)
	for _, file := range files {
		there[file.Name] = struct{}{}
	}
	return there
}

// freshOnes gives, one behind the other, the names of new segments beside the names that are there, by the numbers that names.Fresh tells: no name goes away meanwhile, so that the search goes on where it ended.
func freshOnes(there nameSet) func() string {
	number := uint32(0)
	return func() string {
		for {
			number++
			name, _ := names.Make(api.Segment, number)
			hints, _ := names.Pair(name)
			if !slices.ContainsFunc([]string{name, hints, names.Temp(name), names.Temp(hints)}, there.has) {
				return name
			}
		}
	}
}

// addition is the steps by which a new segment is laid down, and its hint file.
func addition(name string, segment []byte) []api.Step {
	hints, _ := names.Pair(name)
	right, _ := hint.Of(segment) // not refused: it has records alone, and is far shorter than a disk
	return slices.Concat(ahead(name, segment), ahead(hints, right))
}

// ahead is the steps by which bytes are written ahead to a name.
func ahead(name string, data []byte) []api.Step {
	temp := names.Temp(name)
	return []api.Step{
		{Op: api.StepWrite, Name: temp, Data: data},
		{Op: api.StepSync, Name: temp},
		{Op: api.StepRename, Name: temp, To: name},
	}
}

// removal is the steps by which an old segment is taken away: its hint file goes first, so that it is never an orphan.
func removal(name string, there nameSet) []api.Step {
	var steps []api.Step
	if hints, _ := names.Pair(name); there.has(hints) {
		steps = append(steps, api.Step{Op: api.StepRemove, Name: hints})
	}
	return append(steps, api.Step{Op: api.StepRemove, Name: name})
}
