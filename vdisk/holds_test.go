package vdisk_test

import (
	"strings"
	"testing"

	"salvor/api"
	"salvor/vdisk"
)

// byName is files by their names.
func byName(l []api.File) map[string]string {
	files := map[string]string{}
	for _, f := range l {
		files[f.Name] = string(f.Data)
	}
	return files
}

// walked goes through the runs, and hands over what came of each call.
func walked(t *testing.T, look func(d *vdisk.Disk, c call, a answer, files, lasting map[string]string)) {
	t.Helper()
	eachRun(func(capacity int, given []api.File, run []call) {
		d := made(t, capacity, given...)
		for _, c := range run {
			files, lasting := byName(d.Files()), byName(d.Lasting())
			look(d, c, ask(d, c), files, lasting)
			if t.Failed() {
				t.Fatalf("in the run %v", run)
			}
		}
	})
}

func TestUsedIsNeverAboveTheCapacity(t *testing.T) {
	walked(t, func(d *vdisk.Disk, c call, _ answer, _, _ map[string]string) {
		sum := 0
		for _, f := range d.Files() {
			sum += len(f.Data)
		}
		if d.Used() != sum || sum > d.Capacity() || sum < 0 {
			t.Errorf("behind %v: Used() = %d, the files have %d, Capacity() = %d", c, d.Used(), sum, d.Capacity())
		}
	})
}

func TestWhatLastsIsTheBeginningOfWhatThereIs(t *testing.T) {
	walked(t, func(d *vdisk.Disk, c call, _ answer, _, _ map[string]string) {
		files, lasting := byName(d.Files()), byName(d.Lasting())
		if len(files) != len(lasting) {
			t.Errorf("behind %v: %d files, of %d something lasts", c, len(files), len(lasting))
		}
		for name, bytes := range lasting {
			if whole, there := files[name]; !there || !strings.HasPrefix(whole, bytes) {
				t.Errorf("behind %v: of %q lasts %q", c, whole, bytes)
			}
		}
	})
}

func TestWhatWasSyncedLasts(t *testing.T) {
	synced := 0
	walked(t, func(d *vdisk.Disk, c call, a answer, files, _ map[string]string) {
		if c.what != "Sync" || a.errno != api.OK {
			return
		}
		synced++
		if got := byName(d.Lasting())[c.name]; got != files[c.name] {
			t.Errorf("behind %v of %q lasts %q", c, files[c.name], got)
		}
	})
	if synced < 100 {
		t.Errorf("%d times something was synced", synced)
	}
}

// What lasts is lost only by Truncate, Remove, and a Rename onto its name.
func TestBytesThatLastAreLostOnlyAsSaid(t *testing.T) {
	walked(t, func(d *vdisk.Disk, c call, _ answer, _, before map[string]string) {
		after := byName(d.Lasting())
		bytes, was := before[c.name]
		if _, still := after[c.name]; c.what == "Rename" && was && !still {
			before[c.to] = bytes
			delete(before, c.name)
		}
		for name, bytes := range before {
			if name == c.name && (c.what == "Truncate" || c.what == "Remove") {
				continue
			}
			if now, there := after[name]; !there || !strings.HasPrefix(now, bytes) {
				t.Errorf("behind %v of %q, of which %q lasted, lasts %q", c, name, bytes, now)
			}
		}
	})
}

func TestWhatACrashLeaves(t *testing.T) {
	walked(t, func(d *vdisk.Disk, c call, a answer, files, lasting map[string]string) {
		if c.what != "Crash" {
			return
		}
		now := byName(d.Files())
		if a.errno != api.OK || d.Down() || len(now) != len(files) || row(d.Files()) != row(d.Lasting()) {
			t.Errorf("behind %v: %d, Down() = %v, %v of %v, lasting %v", c, a.errno, d.Down(), now, files, d.Lasting())
		}
		for name, bytes := range now {
			lost := len(files[name]) - len(bytes)
			kept := len(bytes) - len(lasting[name])
			if !strings.HasPrefix(bytes, lasting[name]) || !strings.HasPrefix(files[name], bytes) {
				t.Errorf("behind %v of %q is left %q", c, files[name], bytes)
			}
			if kept > max(c.a, 0) || lost > 0 && kept != max(c.a, 0) {
				t.Errorf("behind %v of %q, of which %q lasted, is left %q", c, files[name], lasting[name], bytes)
			}
		}
	})
}

func TestCrashOfNothingKeptLeavesWhatLastingTells(t *testing.T) {
	eachRun(func(capacity int, given []api.File, run []call) {
		for _, keep := range []int{0, -1} {
			d := made(t, capacity, given...)
			for _, c := range run {
				ask(d, c)
			}
			want := row(d.Lasting())
			d.Crash(keep)
			if got := row(d.Files()); got != want {
				t.Fatalf("behind %v Crash(%d) leaves %s, want %s", run, keep, got, want)
			}
		}
	})
}

// A second disk is asked only for what was done on the first one: it comes to the same.
func TestAllIsAsIfWhatFailedHadNeverBeenAsked(t *testing.T) {
	refused, failed, broken := 0, 0, 0
	eachRun(func(capacity int, given []api.File, run []call) {
		d, other := made(t, capacity, given...), made(t, capacity, given...)
		done := false
		for _, c := range run {
			was, before := d.Down(), d.Acts()
			a := ask(d, c)
			switch {
			case c.what == "BreakAt" && a.errno == api.OK:
				done = c.done
			case c.isAct() && d.Acts() == before:
				refused++
			case c.isAct() && d.Down() && !was:
				broken++
				other.BreakAt(1, done)
				if got := ask(other, c); got != a {
					t.Fatalf("%v breaks off: %v, on the other one %v", c, a, got)
				}
			case c.isAct() && a.errno != api.OK:
				failed++
			case c.isAct() || c.what == "Crash":
				if got := ask(other, c); got != a {
					t.Fatalf("%v: %v, on the other one %v", c, a, got)
				}
			}
			if got, want := toldBy(d), toldBy(other); got != want {
				t.Fatalf("behind %v it tells\n%+v, the other one\n%+v", c, got, want)
			}
		}
	})
	if refused < 1000 || failed < 100 || broken < 100 {
		t.Errorf("%d were refused, %d failed, %d broke off", refused, failed, broken)
	}
}

// The same calls on two disks come to the same: nothing but what was asked for counts.
func TestTheSameRunComesToTheSame(t *testing.T) {
	eachRun(func(capacity int, given []api.File, run []call) {
		d, other := made(t, capacity, given...), made(t, capacity, given...)
		for _, c := range run {
			if a, b := ask(d, c), ask(other, c); a != b {
				t.Fatalf("%v: %v and %v", c, a, b)
			}
			toldBy(other) // whoever looks changes nothing
			for name := range other.All() {
				other.Size(name)
			}
		}
		if a, b := toldBy(d), toldBy(other); a != b || d.Acts() != other.Acts() {
			t.Fatalf("behind %v: %+v and %+v", run, a, b)
		}
	})
}
