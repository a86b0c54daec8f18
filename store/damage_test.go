package store_test

import (
	"fmt"
	"maps"
	"math/rand"
	"slices"
	"strings"
	"testing"

	"salvor/api"
	"salvor/vdisk"
)

// grown is what a store has left on a disk, which it has synced or closed: all that it has ever put, and its files.
type grown struct {
	files []api.File
	put   map[string][]string // of each key the values that were once put under it
}

// growth is a store of some keys, written again and again, merged now and then.
func growth(t *testing.T, r *rand.Rand, changes, merges int) grown {
	t.Helper()
	d := diskOf(t, room)
	s := opened(t, d, api.Config{Limit: pick(r, 64, 100, 200)})
	g := grown{put: map[string][]string{}}
	for n := range changes {
		key := pick(r, "a", "b", "c", "d", "\xa7")
		if r.Intn(4) == 0 {
			checkError(t, s.Delete(key), "Delete", api.OK)
		} else {
			value := fmt.Sprint(n, strings.Repeat("v", r.Intn(20)))
			checkError(t, s.Put(key, value), "Put", api.OK)
			g.put[key] = append(g.put[key], value)
		}
		if r.Intn(changes) < merges {
			checkError(t, s.Merge(), "Merge", api.OK)
		}
	}
	checkError(t, s.Sync(), "Sync", api.OK)
	g.files = d.Files()
	return g
}

// framesIn are all frames of files of any kind, as texts.
func framesIn(l []api.File) map[string]int {
	all := map[string]int{}
	for _, f := range l {
		for _, x := range framesByWords(f.Data) {
			all[string(f.Data[x.At:x.At+x.Len])]++
		}
	}
	return all
}

// hasNewFrames tells whether damage has made a frame that was none.
func hasNewFrames(before, now []api.File) bool {
	were := framesIn(before)
	for text := range framesIn(now) {
		if were[text] == 0 {
			return true
		}
	}
	return false
}

// checkDamaged opens stores on what is left of files, and wants each key whose counting record has a copy left to answer as before; it tells of how many keys none is left.
func checkDamaged(t *testing.T, g grown, left []api.File, what string) int {
	t.Helper()
	if hasNewFrames(g.files, left) {
		return 0
	}
	were := foldOf(g.files)
	stands := map[api.Record]int{}
	for _, f := range factsOf(left) {
		stands[f.record]++
	}
	hit := 0
	for _, fast := range []bool{false, true} {
		d := diskOf(t, 2*room, left...)
		s := opened(t, d, api.Config{Limit: 64, Fast: fast})
		got := maps.Collect(s.All())
		checkKeys(t, s, slices.Sorted(maps.Keys(got))...)
		for key, f := range were {
			value, has := got[key]
			switch {
			case stands[f.record] > 0 && (value != f.record.Value || has != (f.record.Kind == api.Put)):
				t.Fatalf("%s: of %s %s is left, and %q has %q, %v (fast %v)", what, sayFiles(g.files), sayFiles(left), key, value, has, fast)
			case stands[f.record] == 0:
				hit++
			}
		}
		for key, value := range got {
			if !slices.Contains(g.put[key], value) {
				t.Fatalf("%s: of %s %s is left, and %q has %q, which was never put (fast %v)", what, sayFiles(g.files), sayFiles(left), key, value, fast)
			}
		}
		checkError(t, s.Put("a", "later"), "Put", api.OK)
		checkGet(t, s, "a", "later")
	}
	return hit
}

// changed is files of which one has other bytes; no bytes at all (nil): it is gone.
func changed(l []api.File, name string, data []byte) []api.File {
	var out []api.File
	for _, f := range l {
		if f.Name != name {
			out = append(out, f)
		}
	}
	if data != nil {
		out = append(out, api.File{Name: name, Data: data})
	}
	return out
}

// Every byte of every file, turned in some ways; every file cut off at every place, and taken away.
func TestDamageOfOnePlace(t *testing.T) {
	t.Parallel()
	r := source()
	hit, damages := 0, 0
	for n, merges := range []int{0, 1, 3, 4} {
		g := growth(t, r, 14+n, merges)
		for _, f := range g.files {
			for at := range f.Data {
				for _, x := range []byte{0x01, 0x80, 0xff, f.Data[at] ^ 0xa7, f.Data[at] ^ 0xa6} {
					data := slices.Clone(f.Data)
					data[at] ^= x
					hit += checkDamaged(t, g, changed(g.files, f.Name, data), fmt.Sprintf("%q turned at %d by %02x", f.Name, at, x))
				}
				hit += checkDamaged(t, g, changed(g.files, f.Name, slices.Clone(f.Data)[:at]), fmt.Sprintf("%q cut at %d", f.Name, at))
				damages += 6
			}
			hit += checkDamaged(t, g, changed(g.files, f.Name, nil), fmt.Sprintf("%q taken away", f.Name))
		}
	}
	if damages < 5000 || hit < 1000 {
		t.Errorf("only %d damages, %d of keys", damages, hit)
	}
}

// Every file copied, and renamed, to each name that there is and some others.
func TestDamageByNames(t *testing.T) {
	t.Parallel()
	r := source()
	for n := range 12 {
		g := growth(t, r, 20, n%4)
		var targets []string
		for _, f := range g.files {
			targets = append(targets, f.Name)
		}
		targets = append(targets, "seg-00000063.log", "seg-ffffffff.log", "seg-00000063.hint", bad1, "x.tmp", seg1+".tmp", "other")
		for _, f := range g.files {
			for _, to := range targets {
				copied := changed(g.files, to, slices.Clone(f.Data))
				checkDamaged(t, g, copied, fmt.Sprintf("%q copied to %q", f.Name, to))
				if f.Name != to {
					checkDamaged(t, g, changed(copied, f.Name, nil), fmt.Sprintf("%q renamed to %q", f.Name, to))
				}
			}
		}
	}
}

// anyDamage does something to a file of a disk.
func anyDamage(r *rand.Rand, d *vdisk.Disk) string {
	name := pick(r, d.Names()...)
	size, _ := d.Size(name)
	to := pick(r, pick(r, d.Names()...), segmentName(uint32(1+r.Intn(20))), bad1, "other")
	switch r.Intn(8) {
	case 0:
		d.Remove(name)
	case 1:
		d.Truncate(name, r.Intn(size+1))
	case 2:
		d.Rename(name, to)
	case 3:
		data, _ := ofName(d.Files(), name)
		d.Remove(to)
		d.Create(to)
		d.Append(to, []byte(data))
	case 4:
		d.Append(name, []byte(pick(r, "x", "\xa7\x00", "\xa7\x00\x00\x05")))
	default:
		turn(d, name, r.Intn(size+1))
	}
	return fmt.Sprintf("%q (%q)", name, to)
}

// Several damages, one behind the other; then the store that was opened on that is written, and damaged again.
func TestDamageOfManyPlaces(t *testing.T) {
	t.Parallel()
	r := source()
	hit, whole := 0, 0
	for range 1500 {
		g := growth(t, r, 10+r.Intn(30), r.Intn(4))
		for range 2 {
			d := diskOf(t, 2*room, g.files...)
			what := ""
			for range 1 + r.Intn(4) {
				if len(d.Names()) > 0 {
					what += anyDamage(r, d) + "; "
				}
			}
			left := d.Files()
			if n := checkDamaged(t, g, left, what); n > 0 {
				hit++
			} else {
				whole++
			}
			if hasNewFrames(g.files, left) {
				break
			}
			s := opened(t, d, api.Config{Limit: 100, Fast: r.Intn(2) == 0})
			checkError(t, s.Put("b", "once more"), "Put", api.OK)
			checkError(t, s.Delete("a"), "Delete", api.OK)
			checkError(t, s.Sync(), "Sync", api.OK)
			g.put["b"] = append(g.put["b"], "once more")
			g.files = d.Files()
		}
	}
	if hit < 800 || whole < 300 {
		t.Errorf("%d times keys were hit, %d times none", hit, whole)
	}
}

// What is hit takes no other record along: a byte in each frame of a segment, one by one.
func TestDamageOfOneRecord(t *testing.T) {
	d := diskOf(t, room)
	s := opened(t, d, ample)
	keys := []string{"a", "b", "c", "d", "e"}
	for _, key := range keys {
		checkError(t, s.Put(key, "old "+key), "Put", api.OK)
	}
	for _, key := range keys {
		checkError(t, s.Put(key, "new "+key), "Put", api.OK)
	}
	checkError(t, s.Close(), "Close", api.OK)
	files := d.Files()
	size := len(whole(put(1, "a", "old a")))
	for n, key := range keys {
		for _, fast := range []bool{false, true} {
			d := diskOf(t, room, files...)
			isOK(t, turn(d, seg1, (5+n)*size+size/2))
			want := map[string]string{}
			for _, key := range keys {
				want[key] = "new " + key
			}
			want[key] = "old " + key
			checkMap(t, opened(t, d, api.Config{Limit: 64, Fast: fast}), want)
		}
	}
}
