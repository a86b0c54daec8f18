package store_test

import (
	"fmt"
	"maps"
	"math"
	"math/rand"
	"slices"
	"strings"
	"testing"

	"salvor/api"
	"salvor/store"
	"salvor/vdisk"
)

// history is what a store has behind each number of the changes that it was asked for.
type history struct {
	states []map[string]string
	made   int // so many were answered without an error
	lasts  int // so many of these were ahead of the last Sync, Merge or Close that came through
	every  int // of the Config; 0: any number may be lost
}

func newHistory() *history { return &history{states: []map[string]string{{}}} }

func (h *history) now() map[string]string { return h.states[len(h.states)-1] }

// change is one more that is asked for.
func (h *history) change(key, value string, has bool) {
	next := maps.Clone(h.now())
	delete(next, key)
	if has {
		next[key] = value
	}
	h.states = append(h.states, next)
}

// least is how many changes there must be behind a crash.
func (h *history) least(lost bool) int {
	switch {
	case !lost:
		return h.made
	case h.every > 0:
		return max(h.lasts, h.made-h.every+1)
	}
	return h.lasts
}

// reopened wants what a store has that was opened anew to be what there was behind some number of changes; these are all that there are then, and last.
func (h *history) reopened(t *testing.T, d *vdisk.Disk, s *store.Store, lost bool) {
	t.Helper()
	got := maps.Collect(s.All())
	n := len(h.states) - 1
	for n >= h.least(lost) && !maps.Equal(h.states[n], got) {
		n--
	}
	if n < h.least(lost) {
		t.Fatalf("there is %v, which is none of %v, of which %d were answered and %d last; on the disk %s", got, h.states, h.made, h.least(lost), sayDisk(d))
	}
	checkKeys(t, s, slices.Sorted(maps.Keys(got))...)
	if s.Last() != topOf(d.Files()) {
		t.Fatalf("Last() = %d, and there is %s", s.Last(), sayDisk(d))
	}
	h.states = h.states[:n+1]
	h.made, h.lasts = n, n
}

// ended takes in what came of changes that were asked for, of which so many were made.
func (h *history) ended(err error, count int) {
	h.made += count
	underWay := 0
	if breaks(err) {
		underWay = 1
	}
	h.states = h.states[:min(len(h.states), h.made+1+underWay)]
}

func breaks(err error) bool {
	errno := numberOf(err)
	return errno == api.ErrDiskIO || errno == api.ErrDiskDown
}

func numberOf(err error) api.Errno {
	if f, is := err.(*api.Failure); is {
		return f.Err.(api.Errno)
	}
	return api.OK
}

// ask has a store do one call of a script, and takes in what came of it.
func (h *history) ask(s *store.Store, c call) error {
	var err error
	switch c.what {
	case "Put":
		h.change(c.keys[0], c.value, true)
		if err = s.Put(c.keys[0], c.value); err != nil {
			h.ended(err, 0)
		} else {
			h.ended(err, 1)
		}
	case "Delete":
		var each []string
		for _, key := range c.keys {
			if _, has := h.now()[key]; has {
				h.change(key, "", false)
				each = append(each, key)
			}
		}
		err = s.Delete(c.keys...)
		left := s.Keys()
		count := 0
		for count < len(each) && !slices.Contains(left, each[count]) {
			count++
		}
		h.ended(err, count)
	case "Sync":
		err = s.Sync()
	case "Merge":
		err = s.Merge()
	case "Close":
		err = s.Close()
	}
	if err == nil && c.what != "Put" && c.what != "Delete" {
		h.lasts = h.made
	}
	return err
}

// scene is a store, and what it is asked for.
type scene struct {
	config api.Config
	calls  []call
}

// play does a scene on an empty disk, which is armed when the store is open; up to the first error.
func play(t *testing.T, x scene, arm func(d *vdisk.Disk)) (*vdisk.Disk, *history) {
	t.Helper()
	d := diskOf(t, room)
	h := newHistory()
	s := opened(t, d, x.config)
	h.every = x.config.Every
	arm(d)
	for _, c := range x.calls {
		if err := h.ask(s, c); err != nil {
			break
		}
	}
	return d, h
}

// checkGoesOn opens a store, wants it to have what it may, and that it can be written, and all of that lasts.
func checkGoesOn(t *testing.T, d *vdisk.Disk, h *history, lost bool, c api.Config) {
	t.Helper()
	s := opened(t, d, c)
	h.reopened(t, d, s, lost)
	d.Crash(0)
	again := opened(t, d, c)
	h.reopened(t, d, again, true)
	h.every = c.Every
	for _, c := range []call{putCall("a", "later"), deleteCall("b", "a"), putCall("b", "later"), {what: "Sync"}} {
		checkError(t, h.ask(again, c), c.what, api.OK)
	}
	d.Crash(0)
	h.reopened(t, d, opened(t, d, c), true)
}

// anyScene is of so many calls, all of which come through if nothing befalls the disk.
func anyScene(r *rand.Rand, count int) scene {
	x := scene{config: api.Config{Limit: pick(r, 64, 80, 100, 200, 1000), Every: pick(r, 0, 0, 0, 1, 2, 3, 4)}}
	for n := range count {
		x.calls = append(x.calls, anyChange(r, n))
	}
	return x
}

// anyChange is a call of a scene; no two values are alike, so that no two states are.
func anyChange(r *rand.Rand, n int) call {
	switch r.Intn(20) {
	case 0, 1:
		return call{what: "Sync"}
	case 2, 3:
		return call{what: "Merge"}
	case 4, 5, 6:
		l := []string{"a", "b", "c", "d"}
		r.Shuffle(4, func(i, k int) { l[i], l[k] = l[k], l[i] })
		return deleteCall(l[:1+r.Intn(4)]...)
	}
	return putCall(pick(r, "a", "b", "c", "d"), fmt.Sprint(n, strings.Repeat("v", r.Intn(pick(r, 5, 30, 60)))))
}

// scenes are some that have everything that a store does.
func scenes() []scene {
	some := []call{putCall("a", "1"), putCall("b", "2"), {what: "Sync"}, putCall("a", "3"), deleteCall("b", "none", "a"), putCall("c", "4"), {what: "Merge"}, putCall("b", "5"), putCall("c", "6"), putCall("d", "7"), deleteCall("d", "b"), {what: "Merge"}, {what: "Merge"}, putCall("a", "8"), {what: "Close"}}
	r := source()
	l := []scene{{api.Config{Limit: 64}, some}, {api.Config{Limit: 64, Every: 1}, some}, {api.Config{Limit: 1000}, some}, {api.Config{Limit: 100, Every: 2}, some}}
	for range 4 {
		l = append(l, anyScene(r, 14))
	}
	return l
}

// A crash at each act, in each way, that keeps each number of the bytes that do not last.
func TestCrashAtEachAct(t *testing.T) {
	t.Parallel()
	crashes, torn := 0, 0
	for i, x := range scenes() {
		d, _ := play(t, x, func(*vdisk.Disk) {})
		acts := d.Acts()
		for n := 1; n <= acts+1; n++ {
			for _, f := range faults {
				loose := 0
				for keep := -1; keep <= loose+1; keep++ {
					d, h := play(t, x, func(d *vdisk.Disk) { f.arm(d, n) })
					if (d.Acts() == n) != (n <= acts) {
						t.Fatalf("when act %d of %d %s: %d acts", n, acts, f.what, d.Acts())
					}
					loose = sumOf(d.Files()) - sumOf(d.Lasting())
					d.Crash(keep)
					checkGoesOn(t, d, h, keep < loose, api.Config{Limit: 64, Every: n % 3, Fast: (n+keep+i)%2 == 0})
					crashes++
					if 0 < keep && keep < loose {
						torn++
					}
				}
			}
		}
	}
	if crashes < 5000 || torn < 1000 {
		t.Errorf("only %d crashes, %d of which tore a file", crashes, torn)
	}
}

func disarm(d *vdisk.Disk) {
	d.FailAt(0)
	d.BreakAt(0, false)
}

// A crash behind a crash, at each act of the Open that was to mend it; then once more.
func TestCrashAtEachActOfOpen(t *testing.T) {
	t.Parallel()
	opens := 0
	for i, x := range scenes() {
		d, _ := play(t, x, func(*vdisk.Disk) {})
		acts := d.Acts()
		for n := 1 + i%2; n <= acts; n += 2 {
			f := faults[n%3]
			for _, keep := range []int{0, 5, room} {
				for _, fast := range []bool{false, true} {
					c := api.Config{Limit: 64, Fast: fast}
					for k := 1; ; k++ {
						d, h := play(t, x, func(d *vdisk.Disk) { f.arm(d, n) })
						d.FailAt(0)
						if d.Down() || keep == 5 { // else the store is opened as it is, with what does not last
							d.Crash(keep)
						}
						before := d.Acts()
						faults[k%3].arm(d, k)
						s, _, err := store.Open(d, c)
						if err == nil && d.Acts()-before < k {
							disarm(d) // else what is read would break off
							h.reopened(t, d, s, true)
							break
						}
						if s != nil || !breaks(err) {
							t.Fatalf("Open that is armed tells %s", sayError(err))
						}
						d.Crash(keep)
						checkGoesOn(t, d, h, true, c)
						opens++
					}
				}
			}
		}
	}
	if opens < 3000 {
		t.Errorf("only %d were broken off", opens)
	}
}

// Stores that are opened, asked and broken off one behind the other, with whatever lost, or forgotten as they are.
func TestCrashesAgainAndAgain(t *testing.T) {
	t.Parallel()
	r := source()
	broken, brokenOpens, lostSome := 0, 0, 0
	for range 2500 {
		d := diskOf(t, room)
		h := newHistory()
		lost := false
		for range 1 + r.Intn(7) {
			if r.Intn(3) == 0 {
				pick(r, faults...).arm(d, 1+r.Intn(12))
			}
			c := api.Config{Limit: pick(r, 64, 80, 200), Every: pick(r, 0, 0, 1, 3), Fast: r.Intn(2) == 0}
			s, _, err := store.Open(d, c)
			if err != nil {
				brokenOpens++
			} else {
				disarm(d)
				h.reopened(t, d, s, lost)
				lost, h.every = false, c.Every
				if r.Intn(3) > 0 {
					pick(r, faults...).arm(d, 1+r.Intn(30))
				}
				for n := range r.Intn(15) {
					if err := h.ask(s, anyChange(r, n)); err != nil {
						broken++
						break
					}
				}
			}
			if d.Down() || r.Intn(2) == 0 {
				loose := sumOf(d.Files()) - sumOf(d.Lasting())
				keep := pick(r, -1, 0, 1, r.Intn(40), math.MaxInt)
				d.Crash(keep)
				if keep < loose {
					lost = true
					lostSome++
				}
			}
		}
		disarm(d)
		checkGoesOn(t, d, h, lost, api.Config{Limit: 64, Fast: r.Intn(2) == 0})
	}
	if broken < 1000 || brokenOpens < 300 || lostSome < 1000 {
		t.Errorf("only %d were broken off, %d when they were opened, %d times something was lost", broken, brokenOpens, lostSome)
	}
}

// The crashes of these tests come to all that can be: nothing, some and all of what did not last; one more than was answered.
func TestTheCrashesLeaveEverything(t *testing.T) {
	counts := map[string]int{}
	for _, x := range scenes() {
		for n := 1; n < 40; n++ {
			for _, f := range faults {
				for _, keep := range []int{0, 20, 40, room} {
					d, h := play(t, x, func(d *vdisk.Disk) { f.arm(d, n) })
					d.Crash(keep)
					s := opened(t, d, plain)
					made, lasts, asked := h.made, h.lasts, len(h.states)-1
					h.reopened(t, d, s, true)
					counts["all that was answered"] += one(h.made == made && made > lasts)
					counts["some"] += one(lasts < h.made && h.made < made)
					counts["what was to last"] += one(h.made == lasts && lasts < made)
					counts["one more"] += one(h.made == made+1 && asked == made+1)
				}
			}
		}
	}
	for _, what := range []string{"all that was answered", "some", "what was to last", "one more"} {
		if counts[what] < 100 {
			t.Errorf("not everything was seen: %v", counts)
		}
	}
}

func one(is bool) int {
	if is {
		return 1
	}
	return 0
}
