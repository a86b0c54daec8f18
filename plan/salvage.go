package plan

import (
	"bytes"
	"slices"

	"salvor/api"
	"salvor/hint"
	"salvor/names"
	"salvor/scan"
	"salvor/segment"
)

// salvage is a plan that is being worked out; each step is done on the directory as soon as it is planned.
type salvage struct {
	*directory
	capacity int
	trusted  map[uint32]struct{}
	bads     uint32 // no number of a quarantine file up to this one is free
	plan     api.Plan
}

func salvageOf(d *directory, capacity int, trusted []uint32) *salvage {
	s := &salvage{directory: d, capacity: capacity, trusted: map[uint32]struct{}{}}
	for _, number := range trusted {
		s.trusted[number] = struct{}{}
	}
	return s
}

// planFor works the plan out for the files of which the directory was made; it panics where there is no room.
func (s *salvage) planFor(files []api.File) api.Plan {
	s.planTemps(ofClass(api.Temp, files))
	s.planSegments(ofClass(api.Segment, files))
	s.planOrphans(ofClass(api.Hints, files))
	s.plan.Peak = s.peak
	return s.plan
}

// add plans a step, and does it: here it is known whether there is room.
func (s *salvage) add(step api.Step) {
	s.do(step)
	if s.bytes > s.capacity {
		panic(api.ErrPlanFull)
	}
	s.plan.Steps = append(s.plan.Steps, step)
}

func (s *salvage) addRemove(name string) {
	s.add(api.Step{Op: api.StepRemove, Name: name})
}

// addAhead plans that bytes are written ahead to a name.
func (s *salvage) addAhead(name string, data []byte) {
	temp := names.Temp(name)
	s.add(api.Step{Op: api.StepWrite, Name: temp, Data: data})
	s.add(api.Step{Op: api.StepSync, Name: temp})
	s.add(api.Step{Op: api.StepRename, Name: temp, To: name})
}

func (s *salvage) planTemps(temps []api.File) {
	for _, file := range temps {
		s.addRemove(file.Name)
	}
}

func (s *salvage) planSegments(segments []api.File) {
	var looked []api.File
	for _, file := range segments {
		_, number := names.Parse(file.Name)
		if _, trusted := s.trusted[number]; trusted {
			s.account(api.Account{Name: file.Name, Class: api.Segment, Hint: api.HintFine})
			continue
		}
		s.planSegment(file)
		looked = append(looked, file)
	}
	for _, r := range View(looked...) {
		s.plan.Report.Top = max(s.plan.Report.Top, r.LSN)
	}
}

func (s *salvage) account(a api.Account) {
	s.plan.Report.Files = append(s.plan.Report.Files, a)
}

// planSegment plans what is done to a segment that is not trusted, and to its hint file.
func (s *salvage) planSegment(file api.File) {
	a := api.Account{Name: file.Name, Class: api.Segment, Extents: scan.Extents(file.Data)}
	clean := scan.Clean(file.Data)
	if len(clean) < len(file.Data) {
		a.Bad = s.freshBad()
		s.addAhead(a.Bad, junkOf(file.Data, a.Extents))
		s.addClean(file.Name, clean, a.Extents)
	}
	a.Hint = s.planHints(file.Name, clean)
	s.count(a.Extents)
	s.account(a)
}

// freshBad is the name by the number that names.Fresh tells: no temp file is there by now, and no quarantine file goes away, so that the search goes on where it ended.
func (s *salvage) freshBad() string {
	for {
		s.bads++
		if name, _ := names.Make(api.Quarantine, s.bads); !s.has(name) {
			return name
		}
	}
}

func isJunk(e api.Extent) bool { return e.Junk }

// junkOf is all junk of some bytes, one run behind the other.
func junkOf(b []byte, extents []api.Extent) []byte {
	var junk []byte
	for _, e := range extents {
		if e.Junk {
			junk = append(junk, b[e.At:e.At+e.Len]...)
		}
	}
	return junk
}

// addClean plans that of a segment with junk its frames are left.
func (s *salvage) addClean(name string, clean []byte, extents []api.Extent) {
	if slices.IndexFunc(extents, isJunk) == len(extents)-1 {
		s.add(api.Step{Op: api.StepTruncate, Name: name, N: len(clean)})
	} else {
		s.addAhead(name, clean)
	}
}

// planHints plans what is done to the hint file of a segment that has become clean, and tells the verdict on it.
func (s *salvage) planHints(segmentName string, clean []byte) api.Verdict {
	name, _ := names.Pair(segmentName)
	right, errno := hint.Of(clean)
	may, there := errno == api.OK, s.has(name)
	switch {
	case !there && !may:
		return api.HintNone
	case !there:
		s.addAhead(name, right)
		return api.HintMissing
	case may && bytes.Equal(s.dataOf(name), right):
		return api.HintFine
	}
	verdict := verdictOn(s.dataOf(name), clean)
	if may {
		s.addAhead(name, right)
	} else {
		s.addRemove(name)
	}
	return verdict
}

// verdictOn is the verdict on a hint file that is not the right one of a segment.
func verdictOn(data, clean []byte) api.Verdict {
	_, verdict := hint.Load(data, segment.Print(clean))
	if verdict == api.HintFine {
		return api.HintForged
	}
	return verdict
}

// count takes the frames and the junk of a segment into the report.
func (s *salvage) count(extents []api.Extent) {
	for _, e := range extents {
		if e.Junk {
			s.plan.Report.Junk += e.Len
		} else {
			s.plan.Report.Frames++
		}
	}
}

// planOrphans plans that hint files go to which no segment belongs.
func (s *salvage) planOrphans(hints []api.File) {
	for _, file := range hints {
		if owner, _ := names.Pair(file.Name); s.has(owner) {
			continue
		}
		s.addRemove(file.Name)
		s.account(api.Account{Name: file.Name, Class: api.Hints, Hint: api.HintOrphan})
	}
}
