package fast_test

import (
	"fmt"
	"slices"
	"testing"

	"salvor/api"
	"salvor/fast"
)

// bulk is a segment of many records and its hint file, in which what is said of some of them is turned.
func bulk(number int, l []api.Record, turn func(n int, p *api.Pointer)) []api.File {
	var data, hints []byte
	for n, r := range l {
		f := whole(r)
		p := api.Pointer{LSN: r.LSN, Kind: r.Kind, At: len(data), Len: len(f), Key: r.Key}
		turn(n, &p)
		data = append(data, f...)
		hints = append(hints, hintFrame(p)...)
	}
	print := api.Print{Bytes: len(data), Frames: len(l), Sum: sumByWords(string(data))}
	hints = append(hints, footFrame(api.Ending{Count: len(l), Print: print})...)
	return []api.File{{Name: fmt.Sprintf("seg-%08x.log", number), Data: data}, {Name: fmt.Sprintf("seg-%08x.hint", number), Data: hints}}
}

func asItIs(int, *api.Pointer) {}

// manyKeys are records of keys that no other segment has.
func manyKeys(number, count int) []api.Record {
	var l []api.Record
	for n := range count {
		l = append(l, put(uint64(number*count+n+1), fmt.Sprintf("%d.%d", number, n), ""))
	}
	return l
}

// statesOf counts the segments that are believed and those that were caught.
func statesOf(p api.Plan) (believed, forged int) {
	for _, a := range p.Report.Files {
		switch {
		case a.Hint == api.HintForged:
			forged++
		case a.Hint == api.HintFine && len(a.Extents) == 0:
			believed++
		}
	}
	return believed, forged
}

// A disk that is nearly full, all of which is believed.
func TestManyRecordsThatAreBelieved(t *testing.T) {
	var l []api.File
	for n := range 100 {
		l = append(l, bulk(n+1, manyKeys(n, 900), asItIs)...)
	}
	d := diskOf(t, api.MaxDisk, l...)
	dir, report, errno := fast.Salvage(d)
	if errno != api.OK || d.Acts() != 0 || report.Top != 90000 || report.Frames != 0 || len(dir.Keys()) != 90000 {
		t.Fatalf("Salvage: %d, %d acts, top %d, %d keys", errno, d.Acts(), report.Top, len(dir.Keys()))
	}
	for s := range dir.All() {
		if s.Known {
			t.Fatalf("%+v is Known", s)
		}
	}
}

// As great a disk on which each segment lies about one key, so that they are caught one behind the other: it does not take a hundred times as long.
func TestALongChainOfGreatSegments(t *testing.T) {
	var l []api.File
	for n := range 100 {
		l = append(l, bulk(n+1, manyKeys(n, 900), func(i int, p *api.Pointer) {
			if i == 0 {
				p.Key, p.LSN = "k", uint64(1000000+n)
			}
		})...)
	}
	p, dir, errno := fast.Plan(l, api.MaxDisk)
	if believed, forged := statesOf(p); errno != api.OK || believed != 0 || forged != 100 || p.Report.Top != 90000 || len(dir.Keys()) != 90000 {
		t.Fatalf("Plan: %d, %d believed, %d forged, top %d, %d keys", errno, believed, forged, p.Report.Top, len(dir.Keys()))
	}
}

// Many small segments that are caught one behind the other: at what counts, and at places that are wanted.
func TestALongChainOfSmallSegments(t *testing.T) {
	const count = 3000
	for _, rivals := range []int{0, 1} {
		l := bulk(count+1, []api.Record{put(1, "k", "true")}, asItIs)
		for n := range count {
			records := []api.Record{put(1, fmt.Sprint(n), ""), put(1, fmt.Sprint(n, "-"), "")}
			l = append(l, bulk(n+1, records, func(i int, p *api.Pointer) {
				if i <= rivals { // two pointers with one key and LSN want each other
					p.Key, p.LSN = "k", uint64(10+n)
				}
			})...)
		}
		p, dir, errno := fast.Plan(l, api.MaxDisk)
		if believed, forged := statesOf(p); errno != api.OK || believed != 1 || forged != count || len(dir.Keys()) != 2*count+1 || p.Report.Top != 1 {
			t.Fatalf("Plan: %d, %d believed, %d forged, %d keys, top %d", errno, believed, forged, len(dir.Keys()), p.Report.Top)
		}
		if s, errno := dir.Get("k"); errno != api.OK || s != pointed(put(1, "k", "true"), count+1, 0) {
			t.Errorf("of k it tells %+v, %d", s, errno)
		}
	}
}

// Many records of one key, each older than the one ahead, in segments that are believed and one that is not; and many with one LSN.
func TestManyRecordsOfOneKey(t *testing.T) {
	const count = 20000
	var falling, alike []api.Record
	for n := range count {
		falling = append(falling, put(uint64(count-n), "k", ""))
		alike = append(alike, put(7, "l", fmt.Sprintf("%06d", n)))
	}
	l := slices.Concat(bulk(1, falling, asItIs), bulk(2, alike, asItIs), bulk(3, falling[1:], asItIs)[:1], bulk(4, falling[:count/2], asItIs), bulk(5, alike[:10], asItIs))
	p, dir, errno := fast.Plan(l, api.MaxDisk)
	if believed, forged := statesOf(p); errno != api.OK || believed != 4 || forged != 0 || p.Report.Top != count {
		t.Fatalf("Plan: %d, %d believed, %d forged, top %d", errno, believed, forged, p.Report.Top)
	}
	if s, errno := dir.Get("k"); errno != api.OK || s != seen(falling[0], 1, 0) { // it has a copy in segment 4
		t.Errorf("of k it tells %+v, %d", s, errno)
	}
	last := count - 1
	if s, errno := dir.Get("l"); errno != api.OK || s != seen(alike[last], 2, last*len(whole(alike[last]))) {
		t.Errorf("of l it tells %+v, %d", s, errno)
	}
}

// Many segments, more than a disk is made with, of which each second one is believed.
func TestManySegments(t *testing.T) {
	const count = 4000
	d := diskOf(t, api.MaxDisk)
	for n := range count {
		l := bulk(n+1, []api.Record{put(uint64(n%100+1), "k", fmt.Sprint(n)), put(1, fmt.Sprint(n), "")}, asItIs)
		for _, f := range l[:2-n%2] {
			d.Create(f.Name)
			d.Append(f.Name, f.Data)
		}
	}
	earlier := d.Acts()
	dir, report, errno := fast.Salvage(d)
	if errno != api.OK || len(report.Files) != count || report.Frames != count || d.Acts()-earlier != 4*count/2 || len(d.Names()) != 2*count {
		t.Fatalf("Salvage: %d, %d accounts, %d frames, %d acts, %d files", errno, len(report.Files), report.Frames, d.Acts()-earlier, len(d.Names()))
	}
	if s, errno := dir.Get("k"); errno != api.OK || s != seen(put(100, "k", "999"), 1000, 0) { // of those with the LSN 100 the one whose body is greatest
		t.Errorf("of k it tells %+v, %d", s, errno)
	}
	if keys := dir.Keys(); len(keys) != count+1 {
		t.Errorf("%d keys", len(keys))
	}
	if _, _, errno := fast.Salvage(d); errno != api.OK || d.Acts()-earlier != 4*count/2 {
		t.Errorf("once more: %d, %d acts", errno, d.Acts()-earlier)
	}
}
