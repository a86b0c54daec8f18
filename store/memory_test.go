package store_test

import (
	"fmt"
	"maps"
	"runtime"
	"slices"
	"strconv"
	"strings"
	"sync"
	"testing"
	"time"

	"salvor/api"
	"salvor/store"
)

// Keys that are handed in are not written into, nor what stands behind the list; and nothing is kept of it.
func TestKeysThatAreHandedIn(t *testing.T) {
	for _, c := range []api.Config{plain, {Limit: 64, Every: 1, Fast: true}} {
		s := opened(t, diskOf(t, room), c)
		for _, key := range []string{"a", "b", "c", "d"} {
			checkError(t, s.Put(key, key), "Put", api.OK)
		}
		list := []string{"c", "none", "a", "c", "a", "b", "behind", "a"}
		before := slices.Clone(list)
		checkError(t, s.Delete(list[:5]...), "Delete", api.OK)
		if !slices.Equal(list, before) {
			t.Errorf("there is %q, was %q", list, before)
		}
		checkError(t, s.Delete(append(list[:1], "")...), "Delete", api.ErrStoreKey)
		for i := range list {
			list[i] = "spoilt"
		}
		checkMap(t, s, map[string]string{"b": "b", "d": "d"})
		checkError(t, s.Delete(list...), "Delete", api.OK)
		checkMap(t, s, map[string]string{"b": "b", "d": "d"})
	}
}

// Keys that are told are the caller's, and stay as they were.
func TestKeysThatAreTold(t *testing.T) {
	s := filled(t, "a", "b", "c")
	one, two := s.Keys(), s.Keys()
	for i := range one[:cap(one)] {
		one[:cap(one)][i] = "spoilt"
	}
	checkMap(t, s, map[string]string{"a": "a", "b": "b", "c": "c"})
	checkError(t, s.Delete("a"), "Delete", api.OK)
	checkError(t, s.Put("d", "d"), "Put", api.OK)
	checkError(t, s.Merge(), "Merge", api.OK)
	checkError(t, s.Close(), "Close", api.OK)
	if !slices.Equal(two, []string{"a", "b", "c"}) {
		t.Errorf("what was told is now %q", two)
	}
	// whoever spoils the keys within a range is told the others all the same
	s = filled(t, "a", "b", "c")
	count := 0
	for range s.All() {
		for _, l := range [][]string{s.Keys(), one} {
			for i := range l {
				l[i] = "spoilt"
			}
		}
		count++
	}
	if count != 3 {
		t.Errorf("it has told of %d keys", count)
	}
}

// spoilReport writes all of a report over, spare room too.
func spoilReport(r api.Report) {
	all := r.Files[:cap(r.Files)]
	for i, a := range all {
		extents := a.Extents[:cap(a.Extents)]
		for k := range extents {
			extents[k] = api.Extent{Junk: true, At: -1, Len: -1}
		}
		all[i] = api.Account{Name: "spoilt", Class: api.Temp, Extents: extents}
	}
}

// A report that was told is the caller's, and stays as it was.
func TestReportsThatAreTold(t *testing.T) {
	for _, fast := range []bool{false, true} {
		c := api.Config{Limit: 100, Fast: fast}
		s, one, err := store.Open(diskOf(t, room, messy()...), c)
		_, two, again := store.Open(diskOf(t, room, messy()...), c)
		if err != nil || again != nil || len(one.Files) == 0 || len(one.Files[0].Extents) == 0 {
			t.Fatalf("%v, %v, %s", err, again, sayReport(one))
		}
		before := sayReport(two)
		for i := range one.Files { // no list of it shares its room with another one
			kept := sayReport(two)
			_ = append(two.Files[i].Extents, api.Extent{At: -1})
			if sayReport(two) != kept {
				t.Errorf("the report has become %s, was %s", sayReport(two), kept)
			}
		}
		spoilReport(one)
		checkMap(t, s, messyMap)
		checkError(t, s.Put("a", "later"), "Put", api.OK)
		checkError(t, s.Merge(), "Merge", api.OK)
		if sayReport(two) != before {
			t.Errorf("the report has become %s, was %s", sayReport(two), before)
		}
	}
}

// The files with which a disk was made, and those that it told, may be written over.
func TestFilesThatAreWrittenOver(t *testing.T) {
	for _, fast := range []bool{false, true} {
		l := messy()
		d := diskOf(t, room, l...)
		s := opened(t, d, api.Config{Limit: 100, Fast: fast})
		for _, f := range append(l, d.Files()...) {
			for i := range f.Data {
				f.Data[i] ^= 0xff
			}
		}
		checkMap(t, s, messyMap)
		checkError(t, s.Merge(), "Merge", api.OK)
		checkMap(t, s, messyMap)
	}
}

// Stores know nothing of one another, but for the disk on which they are.
func TestStoresOnDisksOfTheirOwn(t *testing.T) {
	r := source()
	var disks []keeping
	var wants []map[string]string
	for range 4 {
		disks = append(disks, opened(t, diskOf(t, room), anyGoodConfig(len(disks))))
		wants = append(wants, map[string]string{})
	}
	for range 600 {
		n := r.Intn(4)
		change(t, r, disks[n], wants[n])
		if r.Intn(20) == 0 {
			checkError(t, disks[n].Merge(), "Merge", api.OK)
		}
	}
	checkError(t, disks[0].Close(), "Close", api.OK)
	for n := 1; n < 4; n++ {
		checkMap(t, disks[n], wants[n])
	}
}

func anyGoodConfig(n int) api.Config {
	return []api.Config{{Limit: 64}, {Limit: 100, Every: 1}, {Limit: 1000, Every: 7, Fast: true}, {Limit: 1048576}}[n%4]
}

// Two stores on one disk: each goes on with what it knows, and tells no value that was not put under the key.
func TestStoresOnOneDisk(t *testing.T) {
	d := diskOf(t, room)
	one, two := opened(t, d, ample), opened(t, d, ample)
	checkError(t, one.Put("a", "of one"), "Put", api.OK)
	checkError(t, two.Put("a", "of two"), "Put", api.OK)
	checkError(t, two.Put("b", "of two"), "Put", api.OK)
	checkFile(t, d, seg1, laid(put(1, "a", "of one")))
	checkFile(t, d, seg2, laid(put(1, "a", "of two"), put(2, "b", "of two")))
	checkMap(t, one, map[string]string{"a": "of one"})
	checkMap(t, two, map[string]string{"a": "of two", "b": "of two"})
	checkError(t, one.Merge(), "Merge", api.OK) // it sees all, and takes away what the other one has
	checkMap(t, one, map[string]string{"a": "of two", "b": "of two"})
	checkLast(t, one, 2)
	checkNone(t, two, "a", api.ErrStoreBad)
	checkNone(t, two, "b", api.ErrStoreBad)
	checkError(t, two.Put("a", "lost"), "Put", api.ErrDiskNone)
	checkError(t, two.Merge(), "Merge", api.ErrDiskNone)
	checkError(t, two.Merge(), "Merge", api.OK)
	checkMap(t, two, map[string]string{"a": "of two", "b": "of two"})
}

// Several goroutines may call one store: the calls come one behind the other.
func TestAtOnce(t *testing.T) {
	const workers, rounds = 8, 60
	d := diskOf(t, 1<<21)
	s := opened(t, d, api.Config{Limit: 300, Every: 5})
	var group sync.WaitGroup
	var wrong [workers]string
	var changes [workers]int
	for i := range workers {
		group.Go(func() {
			own := map[string]string{}
			fail := func(what string, err error) {
				if err != nil {
					wrong[i] += fmt.Sprintf("%s: %v; ", what, err)
				}
			}
			for n := range rounds {
				key, value := strconv.Itoa(i)+"-"+strconv.Itoa(n%7), strconv.Itoa(n)
				fail("Put", s.Put(key, value))
				own[key] = value
				fail("Put", s.Put("shared", strconv.Itoa(i)))
				changes[i] += 2
				if n%4 == 0 {
					fail("Delete", s.Delete(key, key, "none"))
					delete(own, key)
					changes[i]++
				}
				if n%20 == i {
					fail("Merge", s.Merge())
				}
				if n%9 == i {
					fail("Sync", s.Sync())
				}
				s.Last()
				for key, value := range s.All() {
					if strings.HasPrefix(key, strconv.Itoa(i)+"-") && own[key] != value {
						wrong[i] += fmt.Sprintf("%q has %q; ", key, value)
					}
				}
				for key, value := range own {
					if got, has, err := s.Get(key); got != value || !has || err != nil {
						wrong[i] += fmt.Sprintf("Get(%q) = %q, %v, %v; ", key, got, has, err)
					}
				}
				mine := slices.DeleteFunc(s.Keys(), func(key string) bool { return !strings.HasPrefix(key, strconv.Itoa(i)+"-") })
				if !slices.Equal(mine, slices.Sorted(maps.Keys(own))) {
					wrong[i] += fmt.Sprintf("the keys are %q; ", mine)
				}
			}
		})
	}
	group.Wait()
	all := 0
	for i := range workers {
		all += changes[i]
		if wrong[i] != "" {
			t.Errorf("the worker %d: %s", i, wrong[i])
		}
	}
	checkLast(t, s, uint64(all)) // no number was given twice, and none left out
	checkError(t, s.Close(), "Close", api.OK)
}

// A store that is closed while others call it: they are answered, or told that it is closed.
func TestClosedWhileOthersCall(t *testing.T) {
	for range 30 {
		s := opened(t, diskOf(t, room), plain)
		var group sync.WaitGroup
		var wrong, closes [6]int
		for i := range wrong {
			group.Go(func() {
				for n := range 30 {
					for _, err := range []error{s.Put("a", "x"), s.Delete("a"), s.Sync(), s.Merge()} {
						if err != nil && numberOf(err) != api.ErrStoreClosed {
							wrong[i]++
						}
					}
					s.Keys()
					for range s.All() {
						s.Last()
					}
					if n == 10+i && s.Close() == nil {
						closes[i]++
					}
				}
			})
		}
		group.Wait()
		count := 0
		for i := range closes {
			count += closes[i]
			if wrong[i] > 0 {
				t.Fatalf("%d wrong errors of the worker %d", wrong[i], i)
			}
		}
		if count != 1 {
			t.Fatalf("it was closed %d times", count)
		}
	}
}

// No call leaves a goroutine behind.
func TestNoGoroutineIsLeft(t *testing.T) {
	before := runtime.NumGoroutine()
	for range 20 {
		s, d, _ := much(t, room, api.Config{Limit: 100, Every: 2})
		d.FailAt(3)
		s.Merge()
		for range s.All() {
			break
		}
		s.Close()
		store.Open(d, api.Config{Limit: 64, Fast: true})
	}
	if after := runtime.NumGoroutine(); after > before {
		t.Errorf("%d goroutines, %d before", after, before)
	}
}

// What a closed store had can be forgotten, though somebody has the store: it tells nothing more of it.
func TestAClosedStoreKeepsNothing(t *testing.T) {
	d := diskOf(t, room)
	s := opened(t, d, plain)
	checkError(t, s.Put("a", "x"), "Put", api.OK)
	gone := make(chan struct{})
	runtime.AddCleanup(d, func(c chan struct{}) { close(c) }, gone)
	d = nil
	checkError(t, s.Close(), "Close", api.OK)
	for range 100 {
		runtime.GC()
		select {
		case <-gone:
			checkLast(t, s, 1)
			return
		case <-time.After(10 * time.Millisecond):
		}
	}
	t.Errorf("the disk is kept")
	runtime.KeepAlive(s)
}
