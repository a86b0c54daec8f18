package fast

import (
	"cmp"
	"iter"
	"maps"
	"slices"

	"salvor/api"
	"salvor/frame"
	"salvor/hint"
	"salvor/keydir"
	"salvor/names"
	"salvor/plan"
	"salvor/segment"
)

type keySet map[string]struct{}

// inquiry finds out which segments of some files are believed. The bytes of the files are those that were handed in: nobody writes into them here.
type inquiry struct {
	segments map[uint32]api.File   // by their numbers
	believed map[uint32][]api.Seen // of each segment that is believed what its pointers say, by places
	caught   map[uint32]struct{}   // believed ones whose pointers have lied
	told     map[string][]api.Seen // of each key what segments tell, and what those that were caught have told

	// What is told of a key changes only when a segment that tells of it is caught: till then nobody need be asked of it again.
	contested keySet // keys whose rivals are to be asked
	uncounted keySet // keys of which that which counts is to be asked
}

// inquiryInto is one in which each segment is believed whose hint file is fine by itself, and nobody was asked yet.
func inquiryInto(files []api.File) *inquiry {
	q := &inquiry{
		segments:  ofClass(api.Segment, files),
		believed:  make(map[uint32][]api.Seen),
		caught:    make(map[uint32]struct{}),
		told:      make(map[string][]api.Seen),
		contested: make(keySet),
		uncounted: make(keySet),
	}
	hints := ofClass(api.Hints, files)
	for number, file := range q.segments {
		pointers, verdict := hint.Load(hints[number].Data, segment.Print(file.Data)) // where there is no hint file it has no bytes, and is damaged
		if verdict == api.HintFine {
			q.believed[number] = seenBy(pointers, number)
			q.hear(q.believed[number])
		} else {
			q.hear(lookInto(file))
		}
	}
	return q
}

// ofClass are the files of a class by their numbers; no name stands twice.
func ofClass(c api.Class, files []api.File) map[uint32]api.File {
	some := make(map[uint32]api.File)
	for _, file := range files {
		if class, number := names.Parse(file.Name); class == c {
			some[number] = file
		}
	}
	return some
}

// seenBy is what the pointers of a segment say.
func seenBy(pointers []api.Pointer, number uint32) []api.Seen {
	var all []api.Seen
	for _, p := range pointers {
		all = append(all, api.Seen{Key: p.Key, LSN: p.LSN, Kind: p.Kind, Place: api.Place{Segment: number, At: p.At, Len: p.Len}})
	}
	return all
}

// pointerOf is the pointer that says what was seen by it.
func pointerOf(s api.Seen) api.Pointer {
	return api.Pointer{LSN: s.LSN, Kind: s.Kind, At: s.Place.At, Len: s.Place.Len, Key: s.Key}
}

// lookInto is what a segment tells that is not believed.
func lookInto(file api.File) []api.Seen {
	var all []api.Seen
	for place, r := range plan.View(file) {
		all = append(all, api.Seen{Key: r.Key, LSN: r.LSN, Kind: r.Kind, Place: place, Known: true, Body: bodyOf(frame.Of(r))})
	}
	return all
}

// bodyOf is the body of a frame that was read: it is not refused.
func bodyOf(f api.Frame) string {
	body, _ := frame.Body(f)
	return string(body)
}

// hear takes in what a segment tells.
func (q *inquiry) hear(tells []api.Seen) {
	for _, s := range tells {
		q.told[s.Key] = append(q.told[s.Key], s)
	}
	q.doubt(tells)
}

// doubt has the keys of which something was told asked of anew.
func (q *inquiry) doubt(tells []api.Seen) {
	for _, s := range tells {
		q.contested[s.Key] = struct{}{}
		q.uncounted[s.Key] = struct{}{}
	}
}

// findOut leaves those believed of whom nothing that an answer would stand on is a lie. Whenever somebody is caught, it begins with the rivals again: what counts is not known before they are settled.
func (q *inquiry) findOut() {
	for q.catches(q.contested, q.rivals) || q.catches(q.uncounted, q.counting) {
		q.lookIntoCaught()
	}
}

// catches asks the pointers that a closure tells of some keys, and gathers the segments that are caught; it tells whether there are any. Those keys are in question no more then.
func (q *inquiry) catches(keys keySet, pointers func(keys keySet) iter.Seq[api.Seen]) bool {
	for s := range pointers(keys) {
		number := s.Place.Segment
		if !hint.Check(q.segments[number].Data, pointerOf(s)) {
			q.caught[number] = struct{}{}
		}
	}
	clear(keys)
	return len(q.caught) > 0
}

// lookIntoCaught believes those that are caught no more.
func (q *inquiry) lookIntoCaught() {
	for number := range q.caught {
		q.doubt(q.believed[number])
		delete(q.believed, number)
		delete(q.caught, number)
		q.hear(lookInto(q.segments[number]))
	}
}

// rivals tells the pointers to all places that are wanted of some keys.
func (q *inquiry) rivals(keys keySet) iter.Seq[api.Seen] {
	return func(yield func(api.Seen) bool) {
		for _, p := range q.dirOf(keys).Rivals() {
			l := q.believed[p.Segment]
			i, _ := slices.BinarySearchFunc(l, p.At, func(s api.Seen, at int) int { return cmp.Compare(s.Place.At, at) })
			if !yield(l[i]) {
				return
			}
		}
	}
}

// counting tells the pointers to what counts of some keys, where it is not Known. Of a key of which it is open nothing is left to ask: all its rivals have been asked by then, or are Known.
func (q *inquiry) counting(keys keySet) iter.Seq[api.Seen] {
	return func(yield func(api.Seen) bool) {
		dir := q.dirOf(keys)
		for key := range keys {
			s, errno := dir.Last(key)
			if errno == api.OK && !s.Known && !yield(s) {
				return
			}
		}
	}
}

// dirOf is a key directory of what is told of some keys, of each only what has the greatest LSN: nothing else is wanted, or counts.
func (q *inquiry) dirOf(keys keySet) *keydir.Dir {
	dir := keydir.New()
	for key := range keys {
		dir.Add(q.greatest(key)...) // not refused: all of it stands in frames
	}
	return dir
}

// greatest is what is told of a key with the greatest LSN.
func (q *inquiry) greatest(key string) []api.Seen {
	var l []api.Seen
	top := uint64(0)
	for _, s := range q.told[key] {
		if s.LSN < top || !q.holds(s) {
			continue
		}
		if s.LSN > top {
			l, top = nil, s.LSN
		}
		l = append(l, s)
	}
	return l
}

// holds tells whether a segment tells what was told: what is not Known was a pointer's word, which is worth nothing when the segment was caught.
func (q *inquiry) holds(s api.Seen) bool {
	_, believed := q.believed[s.Place.Segment]
	return s.Known || believed
}

// settle tells a directory the bodies at the places that it wants, whose pointers are true.
func (q *inquiry) settle(dir *keydir.Dir) {
	for _, p := range dir.Rivals() {
		f, _, _ := frame.Decode(q.segments[p.Segment].Data, p.At)
		dir.Settle(p, bodyOf(f))
	}
}

// trusted are the numbers of those that are believed.
func (q *inquiry) trusted() []uint32 { return slices.Sorted(maps.Keys(q.believed)) }

// dirBehind is the key directory of what all segments tell when those that are not believed have been mended. The places that it wants have all been asked: records have moved, but are the same.
func (q *inquiry) dirBehind(then []api.File) *keydir.Dir {
	var all []api.Seen
	for number, file := range ofClass(api.Segment, then) {
		tells, believed := q.believed[number]
		if !believed {
			tells = lookInto(file)
		}
		all = append(all, tells...)
	}
	dir := keydir.New()
	dir.Add(all...) // all at once, since it is slow to take in many of one key that come out of order; not refused: all of it stands in frames
	q.settle(dir)
	return dir
}
