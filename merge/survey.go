package merge

import (
	"cmp"
	"maps"
	"slices"

	"salvor/api"
	"salvor/keydir"
	"salvor/names"
	"salvor/plan"
)

// survey is what all segments of some files have. The bytes of the files are those that were handed in: nobody writes into them here.
type survey struct {
	old    []api.File         // by numbers
	inOld  map[api.Record]int // of each record in how many places of old segments it stands (0: it stands in others alone)
	unlike map[string]int     // of each key how many records there are that are not copies of one another
	top    uint64             // the greatest LSN of all records
}

func surveyOf(files ...api.File) *survey {
	s := &survey{inOld: make(map[api.Record]int), unlike: make(map[string]int)}
	for _, file := range files {
		if class, _ := names.Parse(file.Name); class == api.Segment {
			s.take(file)
		}
	}
	// all numbers have as many digits: so what is by names is by numbers
	slices.SortStableFunc(s.old, func(a, b api.File) int { return cmp.Compare(a.Name, b.Name) })
	return s
}

func (s *survey) take(segment api.File) {
	records, laid := recordsOf(segment)
	if laid == len(segment.Data) { // nothing is left that would be junk, or a frame of another kind
		s.old = append(s.old, segment)
		s.count(1, records...)
	} else {
		s.count(0, records...)
	}
}

// recordsOf are the records of a segment, and how many bytes their frames have.
func recordsOf(segment api.File) ([]api.Record, int) {
	var records []api.Record
	laid := 0
	for place, r := range plan.View(segment) {
		records = append(records, r)
		laid += place.Len
	}
	return records, laid
}

// count takes in the records of a segment; each adds so many places in old ones.
func (s *survey) count(places int, records ...api.Record) {
	for _, r := range records {
		earlier, known := s.inOld[r]
		if !known {
			s.unlike[r.Key]++
		}
		s.inOld[r] = earlier + places
		s.top = max(s.top, r.LSN)
	}
}

// kept are the records that a merge keeps, by LSN, those with one LSN by keys.
func (s *survey) kept() []api.Record {
	counting := keydir.Fold(slices.Collect(maps.Keys(s.inOld))...) // by keys, in whatever order the map tells them
	kept := chosen(s.keeps, counting...)
	slices.SortStableFunc(kept, func(a, b api.Record) int { return cmp.Compare(a.LSN, b.LSN) })
	return kept
}

// chosen are the records of which a function says yes.
func chosen(is func(r api.Record) bool, records ...api.Record) []api.Record {
	var some []api.Record
	for _, r := range records {
		if is(r) {
			some = append(some, r)
		}
	}
	return some
}

// keeps tells whether a merge keeps a record that counts. A Delete goes only when nothing is left that it hides, and when no number would be given twice without it.
func (s *survey) keeps(r api.Record) bool {
	return s.inOld[r] > 0 && (r.Kind == api.Put || s.unlike[r.Key] > 1 || r.LSN == s.top)
}

// report is that of a merge that keeps so many records.
func (s *survey) report(kept int) api.Report {
	var accounts []api.Account
	for _, file := range s.old {
		accounts = append(accounts, api.Account{Name: file.Name, Class: api.Segment})
	}
	return api.Report{Files: accounts, Top: s.top, Frames: kept}
}
