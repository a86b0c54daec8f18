package store_test

import (
	"fmt"
	"math"
	"math/rand"
	"slices"
	"strings"
	"testing"

	"salvor/api"
)

// The calls of scripts, on the first store.
func putCall(key, value string) call { return call{what: "Put", keys: []string{key}, value: value} }

func deleteCall(keys ...string) call { return call{what: "Delete", keys: keys} }

func getCall(key string) call { return call{what: "Get", keys: []string{key}} }

func openCall(c api.Config) call { return call{what: "Open", config: c} }

// all that is asked of a store behind something that has befallen it
func aftermath() []call {
	return []call{
		{what: "Last"}, {what: "Keys"}, {what: "All"}, getCall("a"), getCall("b"), getCall("none"),
		putCall("a", "then"), deleteCall("b", "a"), deleteCall(), {what: "Sync"}, getCall("a"), {what: "Merge"}, putCall("c", "then"), {what: "Last"}, {what: "All"},
		{what: "Crash", n: 30}, {what: "All"}, putCall("a", "up again"), {what: "Merge"}, {what: "Close"}, {what: "Close"},
		openCall(plain), {what: "All"}, {what: "Last"}, putCall("a", "at last"), {what: "Close"},
		openCall(api.Config{Limit: 64, Fast: true}), {what: "All"}, {what: "Last"},
	}
}

// arming are the calls that have the n-th act from now on fail, or break off.
func arming(n int) []call {
	return []call{{what: "FailAt", n: n}, {what: "BreakAt", n: n}, {what: "BreakAt", n: n, done: true}}
}

// Each call, on stores in several states, with a fault at each of its acts: against the words, with all that is asked behind it.
func TestFaultAtEachActOfEachCall(t *testing.T) {
	for _, c := range []api.Config{{Limit: 64}, {Limit: 64, Every: 1}, {Limit: 100, Every: 2, Fast: true}, {Limit: 1000}, {Limit: 1000, Every: 3}} {
		t.Run(fmt.Sprint(c), func(t *testing.T) {
			t.Parallel()
			long := strings.Repeat("v", 60)
			asked := []call{
				putCall("a", "new"), putCall("new", long), deleteCall("a"), deleteCall("c", "a", "none", "b", "a"), getCall("a"), getCall("b"), {what: "All"}, {what: "Sync"}, {what: "Merge"}, {what: "Close"},
				openCall(plain), openCall(api.Config{Limit: 64, Every: 2, Fast: true}),
			}
			setup := []call{openCall(c), putCall("a", "1"), putCall("b", long), putCall("c", ""), deleteCall("c"), putCall("a", long), putCall("c", "3"), putCall("b", "2")}
			acts := 0
			for _, l := range [][]api.File{nil, messy()} {
				for _, x := range asked {
					acts += checkFaults(t, l, setup, x)
				}
			}
			if acts < 60 {
				t.Errorf("only %d acts", acts)
			}
		})
	}
}

// checkFaults has each act of a call fail and break off, behind a script; it tells how many acts there are.
func checkFaults(t *testing.T, l []api.File, setup []call, x call) int {
	t.Helper()
	for n := 1; ; n++ {
		acts := 0
		for _, arm := range arming(n) {
			real, onPaper := newDesks(t, room, 1, l...)
			for i, c := range setup {
				checkCall(t, real, onPaper, c, setup[:i]...)
			}
			checkCall(t, real, onPaper, arm, setup...)
			before := real.disk.Acts()
			run := append(slices.Clone(setup), arm, x)
			checkCall(t, real, onPaper, x, run[:len(run)-1]...)
			acts = max(acts, real.disk.Acts()-before)
			for _, c := range aftermath() {
				checkCall(t, real, onPaper, c, run...)
				run = append(run, c)
			}
		}
		if acts < n {
			return n - 1
		}
	}
}

func anyKeys(r *rand.Rand) []string {
	var keys []string
	for range r.Intn(5) {
		keys = append(keys, anyKey(r))
	}
	return keys
}

func anyKey(r *rand.Rand) string {
	if r.Intn(40) == 0 {
		return pick(r, "", key65)
	}
	return pick(r, "a", "b", "c", "d", "e", "\xa7", "\xa6\x00", key64, "a", "b", "c")
}

func anyValue(r *rand.Rand) string {
	switch r.Intn(30) {
	case 0:
		return pick(r, value48, value49)
	case 1:
		return strings.Repeat("\xa7", r.Intn(60))
	}
	return strings.Repeat(fmt.Sprint(r.Intn(10)), r.Intn(50))
}

func anyConfig(r *rand.Rand) api.Config {
	if r.Intn(30) == 0 {
		return pick(r, api.Config{Limit: 63}, api.Config{Limit: 64, Every: -1}, api.Config{Limit: 1048577}, api.Config{Limit: 64, Every: 1001})
	}
	return api.Config{Limit: pick(r, 64, 64, 80, 100, 200, 1000, 1048576), Every: pick(r, 0, 0, 1, 2, 3, 5, 1000), Fast: r.Intn(2) == 0}
}

// anyStoreCall is one of a store's; most of them write.
func anyStoreCall(r *rand.Rand, of int) call {
	switch r.Intn(16) {
	case 0, 1, 2, 3, 4:
		return call{what: "Put", of: of, keys: []string{anyKey(r)}, value: anyValue(r)}
	case 5, 6, 7:
		return call{what: "Delete", of: of, keys: anyKeys(r)}
	case 8, 9:
		return call{what: "Get", of: of, keys: []string{anyKey(r)}}
	case 10:
		return call{what: "Keys", of: of}
	case 11:
		return call{what: "All", of: of}
	case 12:
		return call{what: "Sync", of: of}
	case 13:
		return call{what: "Merge", of: of}
	case 14:
		return call{what: "Last", of: of}
	}
	return call{what: pick(r, "Close", "Sync", "Merge"), of: of}
}

// anyFault is something that befalls the disk.
func anyFault(r *rand.Rand) call {
	n := 1 + r.Intn(1+r.Intn(12))
	switch r.Intn(5) {
	case 0:
		return call{what: "FailAt", n: n}
	case 1:
		return call{what: "BreakAt", n: n, done: r.Intn(2) == 0}
	}
	return call{what: "Crash", n: pick(r, -1, 0, 1, r.Intn(60), math.MaxInt)}
}

// anyTampering is something that somebody else does to the disk.
func anyTampering(r *rand.Rand) call {
	name := func() string {
		return pick(r, seg1, seg2, seg3, seg4, segmentName(uint32(1+r.Intn(9))), hint1, hint2, hint3, bad1, "x.tmp", seg2+".tmp", "other")
	}
	record := put(uint64(1+r.Intn(60)), anyKey(r), "other")
	if r.Intn(3) == 0 {
		record = gone(record.LSN, record.Key)
	}
	if r.Intn(300) == 0 {
		record.LSN = spent - uint64(r.Intn(6))
	}
	switch r.Intn(9) {
	case 0:
		return call{what: "Create", name: name()}
	case 1:
		return call{what: "Remove", name: name()}
	case 2:
		return call{what: "Rename", name: name(), to: name()}
	case 3:
		return call{what: "Truncate", name: name(), n: r.Intn(60)}
	case 4, 5:
		return call{what: "Append", name: name(), to: whole(record)}
	case 6:
		return call{what: "Append", name: name(), to: pick(r, "x", "\xa7", footFrame(api.Ending{}), whole(record)[:5], rightFor(record))}
	}
	return call{what: "Turn", name: name(), n: r.Intn(80)}
}

// anyRun is a script of calls, with faults and tampering as often as is said (of a hundred).
func anyRun(r *rand.Rand, count, stores, faults, tampering int) []call {
	var run []call
	for of := range stores {
		run = append(run, call{what: "Open", of: of, config: anyConfig(r)})
	}
	for range count {
		of := r.Intn(stores)
		switch n := r.Intn(100); {
		case n < faults:
			run = append(run, anyFault(r))
		case n < faults+tampering:
			run = append(run, anyTampering(r))
		case n >= 93:
			run = append(run, call{what: "Open", of: of, config: anyConfig(r)})
		default:
			run = append(run, anyStoreCall(r, of))
		}
	}
	return run
}

// Any scripts against the words: with faults and without, with others that write to the disk, and with several stores on it.
func TestAnyRuns(t *testing.T) {
	t.Parallel()
	r := source()
	seen := map[string]int{}
	for _, x := range []struct{ runs, count, stores, faults, tampering int }{{300, 60, 1, 0, 0}, {600, 40, 1, 12, 0}, {400, 40, 1, 0, 15}, {400, 40, 1, 10, 10}, {200, 60, 2, 5, 5}} {
		for range x.runs {
			capacity := pick(r, room, room, room, 300+r.Intn(2000))
			run := anyRun(r, x.count, x.stores, x.faults, x.tampering)
			for i, answer := range checkRun(t, capacity, x.stores, nil, run) {
				words := strings.Fields(answer)
				if n := len(words); n > 1 && slices.Contains([]string{"Open", "Put", "Delete", "Get", "Sync", "Merge", "Close"}, words[n-2]) {
					seen[words[n-2]+" "+words[n-1]]++
				} else if answer == "nil" {
					seen[run[i].what]++
				}
			}
		}
	}
	for _, want := range []string{
		"Put", "Delete", "Sync", "Merge", "Close", "Open 150", "Open 111", "Open 74", "Open 75", "Put 151", "Put 152", "Put 153", "Put 155", "Put 71", "Put 73", "Put 74", "Put 75",
		"Delete 151", "Delete 153", "Delete 155", "Delete 71", "Delete 73", "Delete 74", "Delete 75", "Get 151", "Get 153", "Get 156", "Get 74", "Get 75",
		"Sync 153", "Sync 155", "Sync 71", "Sync 74", "Sync 75", "Merge 153", "Merge 155", "Merge 111", "Merge 71", "Merge 74", "Merge 75", "Close 153", "Close 71", "Close 74", "Close 75",
	} {
		if seen[want] == 0 {
			t.Errorf("not everything was seen: no %s of %v", want, seen)
		}
	}
}

// The same near the greatest number.
func TestAnyRunsNearTheGreatestNumber(t *testing.T) {
	r := source()
	spentOnes := 0
	for range 300 {
		l := clean(1, put(3, "a", "x"), put(spent-uint64(r.Intn(12)), "b", "y"))
		for _, answer := range checkRun(t, room, 1, l, anyRun(r, 30, 1, 5, 0)) {
			if strings.HasSuffix(answer, "154") {
				spentOnes++
			}
		}
	}
	if spentOnes < 300 {
		t.Errorf("only %d answers that no number is left", spentOnes)
	}
}

// A store is a map, over any script: what it tells is what a Go map has, closed and opened again however often.
func TestAStoreIsAMap(t *testing.T) {
	r := source()
	opens, merges := 0, 0
	for range 300 {
		d := diskOf(t, 1<<20)
		s := opened(t, d, api.Config{Limit: 64})
		want := map[string]string{}
		last := uint64(0)
		for range 80 {
			key := pick(r, "a", "b", "c", "d", "\xa7", "\x00", key64)
			switch r.Intn(12) {
			case 0, 1, 2, 3, 4:
				value := anyValue(r)[:0] + strings.Repeat(fmt.Sprint(r.Intn(10)), r.Intn(60))
				checkError(t, s.Put(key, value), "Put", api.OK)
				want[key] = value
				last++
			case 5, 6:
				other := pick(r, "a", "b", "c", "none")
				checkError(t, s.Delete(key, other, key), "Delete", api.OK)
				before := len(want)
				delete(want, key)
				delete(want, other)
				last += uint64(before - len(want))
			case 7:
				checkError(t, s.Sync(), "Sync", api.OK)
			case 8:
				checkError(t, s.Merge(), "Merge", api.OK)
				merges++
			case 9:
				if r.Intn(2) == 0 { // else it is forgotten as it is
					checkError(t, s.Close(), "Close", api.OK)
				}
				s = opened(t, d, api.Config{Limit: pick(r, 64, 100, 500), Every: r.Intn(4), Fast: r.Intn(2) == 0})
				opens++
			case 10:
				checkMap(t, s, want)
			default:
				if value, has := want[key]; has {
					checkGet(t, s, key, value)
				} else {
					checkNone(t, s, key, api.OK)
				}
			}
			checkLast(t, s, last)
		}
		checkMap(t, s, want)
	}
	if opens < 1000 || merges < 1000 {
		t.Errorf("only %d stores were opened, %d merges", opens, merges)
	}
}

// A call that tells an error changes nothing of what is told later.
func TestErrorsChangeNothing(t *testing.T) {
	r := source()
	seen := map[string]int{}
	for range 400 {
		d := diskOf(t, 1500+r.Intn(1500))
		k := desk{d, []keeping{opened(t, d, api.Config{Limit: pick(r, 64, 200, 1000), Every: r.Intn(3)})}, openReal}
		for range 40 {
			c := anyStoreCall(r, 0)
			if c.what == "Close" || c.what == "Delete" && len(c.keys) > 1 {
				continue
			}
			before := told(k.stores[0])
			if r.Intn(6) == 0 {
				pick(r, faults...).arm(d, 1+r.Intn(5))
			}
			answer := k.ask(c)
			if d.Down() {
				d.Crash(math.MaxInt)
			}
			disarm(d)
			words := strings.Fields(answer)
			if n := len(words); n < 2 || words[n-2] != c.what {
				continue
			}
			seen[words[len(words)-2]+" "+words[len(words)-1]]++
			if now := told(k.stores[0]); now != before {
				t.Fatalf("%v tells %s, and then\n  %s, was\n  %s", c, answer, now, before)
			}
		}
	}
	for _, want := range []string{
		"Put 151", "Put 152", "Put 155", "Put 73", "Put 74", "Put 75", "Delete 151", "Delete 155", "Delete 74", "Delete 75", "Get 151", "Get 74", "Get 75",
		"Sync 74", "Sync 75", "Sync 155", "Merge 111", "Merge 74", "Merge 75", "Merge 155",
	} {
		if seen[want] == 0 {
			t.Errorf("not everything was seen: no %s of %v", want, seen)
		}
	}
}
