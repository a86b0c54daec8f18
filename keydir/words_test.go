package keydir_test

import (
	"fmt"
	"iter"
	"math/rand"
	"slices"
	"strings"
	"testing"

	"salvor/api"
	"salvor/keydir"
)

const greatest = 1<<64 - 1 // of all numbers of records

func source() *rand.Rand { return rand.New(rand.NewSource(8)) }

func pick[T any](r *rand.Rand, l ...T) T { return l[r.Intn(len(l))] }

func put(lsn uint64, key, value string) api.Record {
	return api.Record{LSN: lsn, Kind: api.Put, Key: key, Value: value}
}

func gone(lsn uint64, key string) api.Record {
	return api.Record{LSN: lsn, Kind: api.Delete, Key: key}
}

func place(segment uint32, from, count int) api.Place {
	return api.Place{Segment: segment, At: from, Len: count}
}

// at is a place of 20 bytes.
func at(segment uint32, from int) api.Place { return place(segment, from, 20) }

func varint(n uint64) string {
	s := ""
	for ; n >= 0x80; n >>= 7 {
		s += string([]byte{byte(n) | 0x80})
	}
	return s + string([]byte{byte(n)})
}

// body is written as the section Words has it.
func body(r api.Record) string {
	if r.Kind == api.Delete {
		return "\x02" + varint(r.LSN) + r.Key
	}
	return "\x01" + varint(r.LSN) + varint(uint64(len(r.Key))) + r.Key + r.Value
}

// read is a record that was seen with its body.
func read(r api.Record, p api.Place) api.Seen {
	return api.Seen{Key: r.Key, LSN: r.LSN, Kind: r.Kind, Place: p, Known: true, Body: body(r)}
}

// bare is one that was seen without: it is not Known.
func bare(r api.Record, p api.Place) api.Seen {
	return api.Seen{Key: r.Key, LSN: r.LSN, Kind: r.Kind, Place: p}
}

// added is a directory that has taken in some things.
func added(t *testing.T, l ...api.Seen) *keydir.Dir {
	t.Helper()
	d := keydir.New()
	add(t, d, l...)
	return d
}

func add(t *testing.T, d *keydir.Dir, l ...api.Seen) {
	t.Helper()
	if errno := d.Add(l...); errno != api.OK {
		t.Fatalf("Add(%v) = %d", l, errno)
	}
}

func checkErrno(t *testing.T, what string, got, want api.Errno) {
	t.Helper()
	if got != want {
		t.Errorf("%s tells %d, want %d", what, got, want)
	}
}

// checkCounts holds what counts of a key: by Last, by Get, and by what goes over all keys.
func checkCounts(t *testing.T, d *keydir.Dir, want api.Seen) {
	t.Helper()
	if s, errno := d.Last(want.Key); s != want || errno != api.OK {
		t.Errorf("Last(%q) = %v, %d, want %v", want.Key, s, errno, want)
	}
	if want.Kind == api.Delete {
		checkNoValue(t, d, want.Key, api.ErrKeydirNone)
		return
	}
	if s, errno := d.Get(want.Key); s != want || errno != api.OK {
		t.Errorf("Get(%q) = %v, %d, want %v", want.Key, s, errno, want)
	}
	if !slices.Contains(d.Keys(), want.Key) || !slices.Contains(slices.Collect(d.All()), want) {
		t.Errorf("Keys() = %q, All tells %v, want %v", d.Keys(), slices.Collect(d.All()), want)
	}
}

func checkNoValue(t *testing.T, d *keydir.Dir, key string, want api.Errno) {
	t.Helper()
	if s, errno := d.Get(key); s != (api.Seen{}) || errno != want {
		t.Errorf("Get(%q) = %v, %d, want %d", key, s, errno, want)
	}
	for s := range d.All() {
		if s.Key == key {
			t.Errorf("All tells %v", s)
		}
	}
	if slices.Contains(d.Keys(), key) {
		t.Errorf("Keys() = %q, with %q", d.Keys(), key)
	}
}

// checkNothing holds that nothing counts of a key, and why.
func checkNothing(t *testing.T, d *keydir.Dir, key string, want api.Errno) {
	t.Helper()
	if s, errno := d.Last(key); s != (api.Seen{}) || errno != want {
		t.Errorf("Last(%q) = %v, %d, want %d", key, s, errno, want)
	}
	checkNoValue(t, d, key, want)
}

func checkRivals(t *testing.T, d *keydir.Dir, want ...api.Place) {
	t.Helper()
	if got := d.Rivals(); !slices.Equal(got, want) {
		t.Errorf("Rivals() = %v, want %v", got, want)
	}
}

func checkKeys(t *testing.T, d *keydir.Dir, want ...string) {
	t.Helper()
	if got := d.Keys(); !slices.Equal(got, want) {
		t.Errorf("Keys() = %q, want %q", got, want)
	}
}

func checkTop(t *testing.T, d *keydir.Dir, want uint64) {
	t.Helper()
	if got := d.Top(); got != want {
		t.Errorf("Top() = %d, want %d", got, want)
	}
}

// teller is a directory, or a paper.
type teller interface {
	Rivals() []api.Place
	Get(key string) (api.Seen, api.Errno)
	Last(key string) (api.Seen, api.Errno)
	Keys() []string
	All() iter.Seq[api.Seen]
	Top() uint64
}

// told is all that a directory tells, of some keys.
func told(d teller, keys ...string) string {
	var b strings.Builder
	for _, key := range keys {
		last, lastErrno := d.Last(key)
		get, getErrno := d.Get(key)
		fmt.Fprintf(&b, "%q: Last %+v %d, Get %+v %d\n", key, last, lastErrno, get, getErrno)
	}
	fmt.Fprintf(&b, "Keys %q, Top %d, Rivals %v\nAll", d.Keys(), d.Top(), d.Rivals())
	for s := range d.All() {
		fmt.Fprintf(&b, " %+v", s)
	}
	return b.String()
}

// paper is a directory as the chapter's words have it: a list of what was taken in, in which all is looked up anew.
type paper struct{ taken []api.Seen }

// mayBeSeen is written as the chapter says it.
func mayBeSeen(s api.Seen) bool {
	switch {
	case len(s.Key) < 1 || len(s.Key) > 64:
		return false
	case s.LSN < 1:
		return false
	case s.Kind != api.Put && s.Kind != api.Delete:
		return false
	case s.Place.Segment == 0 || s.Place.At < 0 || s.Place.Len < 1:
		return false
	case s.Known:
		return isBodyOf(s, s.Body)
	}
	return s.Body == ""
}

// isBodyOf tells whether a text is the body of a record of a key, LSN and kind, with whatever value a record may have.
func isBodyOf(s api.Seen, text string) bool {
	without := body(api.Record{LSN: s.LSN, Kind: s.Kind, Key: s.Key})
	if s.Kind == api.Delete {
		return text == without
	}
	return strings.HasPrefix(text, without) && len(text)-len(without) <= 2048
}

func (p *paper) Add(l ...api.Seen) api.Errno {
	for _, s := range l {
		if !mayBeSeen(s) {
			return api.ErrKeydirArg
		}
	}
	p.taken = append(p.taken, l...)
	return api.OK
}

// known is what was taken in: each once, and none that is nothing beside another one.
func (p *paper) known() []api.Seen {
	var l []api.Seen
	for i, s := range p.taken {
		isNothingBeside := func(other api.Seen) bool {
			return !s.Known && other.Known && other.Key == s.Key && other.LSN == s.LSN && other.Kind == s.Kind && other.Place == s.Place
		}
		if !slices.Contains(p.taken[:i], s) && !slices.ContainsFunc(p.taken, isNothingBeside) {
			l = append(l, s)
		}
	}
	return l
}

func (p *paper) rivalsOf(key string) []api.Seen {
	var l []api.Seen
	for _, s := range p.known() {
		if s.Key != key || len(l) > 0 && s.LSN < l[0].LSN {
			continue
		}
		if len(l) > 0 && s.LSN > l[0].LSN {
			l = nil
		}
		l = append(l, s)
	}
	return l
}

func isOpen(rivals []api.Seen) bool {
	unlike, unknown := false, false
	for _, s := range rivals {
		unlike = unlike || s.Place != rivals[0].Place || s.Kind != rivals[0].Kind
		unknown = unknown || !s.Known
	}
	return unlike && unknown
}

func isLess(a, b api.Place) bool {
	switch {
	case a.Segment != b.Segment:
		return a.Segment < b.Segment
	case a.At != b.At:
		return a.At < b.At
	}
	return a.Len < b.Len
}

func (p *paper) Last(key string) (api.Seen, api.Errno) {
	rivals := p.rivalsOf(key)
	if len(rivals) == 0 {
		return api.Seen{}, api.ErrKeydirNone
	}
	if isOpen(rivals) {
		return api.Seen{}, api.ErrKeydirOpen
	}
	counts := rivals[0]
	for _, s := range rivals {
		if s.Body > counts.Body || s.Body == counts.Body && isLess(s.Place, counts.Place) {
			counts = s
		}
	}
	return counts, api.OK
}

func (p *paper) Get(key string) (api.Seen, api.Errno) {
	s, errno := p.Last(key)
	if s.Kind == api.Delete {
		return api.Seen{}, api.ErrKeydirNone
	}
	return s, errno
}

func (p *paper) Keys() []string {
	var l []string
	for _, s := range p.taken {
		if _, errno := p.Get(s.Key); errno == api.OK && !slices.Contains(l, s.Key) {
			l = append(l, s.Key)
		}
	}
	slices.Sort(l)
	return l
}

func (p *paper) All() iter.Seq[api.Seen] {
	return func(yield func(api.Seen) bool) {
		for _, key := range p.Keys() {
			if s, _ := p.Get(key); !yield(s) {
				return
			}
		}
	}
}

func (p *paper) Top() uint64 {
	top := uint64(0)
	for _, s := range p.taken {
		top = max(top, s.LSN)
	}
	return top
}

func (p *paper) Rivals() []api.Place {
	var l []api.Place
	for _, s := range p.known() {
		rivals := p.rivalsOf(s.Key)
		if isOpen(rivals) && slices.Contains(rivals, s) && !s.Known && !slices.Contains(l, s.Place) {
			l = append(l, s.Place)
		}
	}
	slices.SortFunc(l, func(a, b api.Place) int {
		if isLess(a, b) {
			return -1
		}
		return 1
	})
	return l
}

func (p *paper) Settle(where api.Place, text string) api.Errno {
	if !slices.Contains(p.Rivals(), where) {
		return api.ErrKeydirNone
	}
	var l []api.Seen
	for _, s := range p.known() {
		if s.Known || s.Place != where {
			l = append(l, s)
		} else if isBodyOf(s, text) {
			s.Known, s.Body = true, text
			l = append(l, s)
		}
	}
	p.taken = l
	return api.OK
}

func (p *paper) Join(others ...*paper) {
	for _, other := range others {
		if other != nil {
			p.taken = append(p.taken, other.known()...)
		}
	}
}

func (p *paper) Drop(segments ...uint32) {
	var l []api.Seen
	for _, s := range p.taken {
		if !slices.Contains(segments, s.Place.Segment) {
			l = append(l, s)
		}
	}
	p.taken = l
}

// checkAlike holds a directory against a paper.
func checkAlike(t *testing.T, d *keydir.Dir, p *paper, keys ...string) bool {
	t.Helper()
	got, want := told(d, keys...), told(p, keys...)
	if got != want {
		t.Errorf("it tells\n%s\nwant\n%s", got, want)
	}
	return got == want
}
