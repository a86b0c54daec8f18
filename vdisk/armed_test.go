package vdisk_test

import (
	"fmt"
	"math"
	"testing"

	"salvor/api"
	"salvor/vdisk"
)

// appends asks for as many acts as answers are wanted, and holds these.
func appends(t *testing.T, d *vdisk.Disk, want ...api.Errno) {
	t.Helper()
	for i, w := range want {
		checkErrno(t, fmt.Sprintf("act %d", i+1), d.Append("a", []byte("x")), w)
	}
}

const (
	ok   = api.OK
	io   = api.ErrDiskIO
	down = api.ErrDiskDown
)

func armed(t *testing.T) *vdisk.Disk {
	t.Helper()
	return made(t, 100, file("a", ""))
}

func TestFailAt(t *testing.T) {
	d := armed(t)
	checkErrno(t, "FailAt(0)", d.FailAt(0), ok)
	appends(t, d, ok, ok, ok)
	checkErrno(t, "FailAt(1)", d.FailAt(1), ok)
	appends(t, d, io, ok, ok, ok) // once, and no more
	checkErrno(t, "FailAt(3)", d.FailAt(3), ok)
	appends(t, d, ok, ok, io, ok, ok, ok, ok)
	checkHas(t, d, 14, "a=|xxxxxxxxxxxx")
	if d.Down() {
		t.Error("a disk that failed is down")
	}
}

func TestFailAtAgainAheadOfTheAct(t *testing.T) {
	d := armed(t)
	d.FailAt(1)
	d.FailAt(3)
	appends(t, d, ok, ok, io, ok)
	d.FailAt(5)
	appends(t, d, ok)
	d.FailAt(2) // of the acts from now on
	appends(t, d, ok, io, ok, ok, ok)
	d.FailAt(1)
	d.FailAt(0)
	appends(t, d, ok, ok)
	d.FailAt(2)
	appends(t, d, ok)
	d.FailAt(0)
	appends(t, d, ok, ok, ok)
}

// A wrong number changes nothing: what was armed ahead is armed.
func TestArmedWithNumbersBelowNought(t *testing.T) {
	for _, n := range []int{-1, -2, math.MinInt, math.MinInt + 1} {
		d := armed(t)
		checkErrno(t, "FailAt", d.FailAt(n), api.ErrDiskArg)
		checkErrno(t, "BreakAt", d.BreakAt(n, true), api.ErrDiskArg)
		checkErrno(t, "BreakAt", d.BreakAt(n, false), api.ErrDiskArg)
		appends(t, d, ok, ok, ok)
		d.FailAt(2)
		d.BreakAt(3, true)
		checkErrno(t, "FailAt", d.FailAt(n), api.ErrDiskArg)
		checkErrno(t, "BreakAt", d.BreakAt(n, false), api.ErrDiskArg)
		appends(t, d, ok, io, down, down)
		checkHas(t, d, 6, "a=|xxxxx")
		checkErrno(t, "FailAt of a disk that is down", d.FailAt(n), api.ErrDiskArg)
		checkErrno(t, "BreakAt of a disk that is down", d.BreakAt(n, true), api.ErrDiskArg)
	}
}

func TestArmedWithTheGreatestNumbers(t *testing.T) {
	for _, n := range []int{1000, 1 << 31, 1 << 32, 1<<32 + 1, math.MaxInt - 1, math.MaxInt} {
		d := armed(t)
		appends(t, d, ok, ok, ok)
		checkErrno(t, "FailAt", d.FailAt(n), ok)
		checkErrno(t, "BreakAt", d.BreakAt(n, true), ok)
		appends(t, d, ok, ok, ok, ok, ok, ok)
		d.FailAt(2)
		appends(t, d, ok, io, ok)
		d.BreakAt(2, true)
		appends(t, d, ok, down)
	}
}

func TestFailAtALaterAct(t *testing.T) {
	for n := 1; n <= 60; n++ {
		d := armed(t)
		d.FailAt(n)
		for i := 1; i <= 70; i++ {
			want := ok
			if i == n {
				want = io
			}
			if got := d.Append("a", []byte("x")); got != want {
				t.Fatalf("FailAt(%d): act %d tells %d", n, i, got)
			}
		}
	}
}

// Each of the seven fails, and has changed nothing then; asked for again, it is done.
func TestEachActFails(t *testing.T) {
	for _, c := range everyAct() {
		d, p := made(t, 20, file("a", "abc")), newPaper(20, file("a", "abc"))
		for _, e := range []call{{what: "Append", name: "a", data: "de"}, {what: "FailAt", a: 1}, c} {
			if got, want := ask(d, e), p.ask(e); got != want {
				t.Errorf("%v: %v, want %v", e, got, want)
			}
		}
		if p.acts == 2 { // it was one
			checkHas(t, d, 2, "a=abc|de")
		}
		checkTold(t, d, p, []call{c})
		if got, want := ask(d, c), p.ask(c); got != want {
			t.Errorf("%v again: %v, want %v", c, got, want)
		}
		checkTold(t, d, p, []call{c, c})
	}
}

// What is refused is no act: it does not count, nor does it fail or break off.
func TestWhatIsRefusedIsNoAct(t *testing.T) {
	var refused []call
	for _, c := range everyAct() {
		if newPaper(20, file("a", "abc")).refusal(c) != ok {
			refused = append(refused, c)
		}
	}
	if len(refused) < 15 {
		t.Fatalf("%d calls are refused", len(refused))
	}
	ask3 := func(d *vdisk.Disk, c call, want api.Errno) {
		t.Helper()
		for range 3 {
			if got := ask(d, c); got.errno != want || got.read != "" {
				t.Errorf("%v: %v, want %d", c, got, want)
			}
		}
	}
	for _, c := range refused {
		d := made(t, 20, file("a", "abc"))
		why := newPaper(20, file("a", "abc")).refusal(c)
		d.FailAt(2)
		d.BreakAt(4, true)
		for i, want := range []api.Errno{ok, io, ok, down} {
			ask3(d, c, why)
			checkErrno(t, fmt.Sprintf("act %d", i+1), d.Sync("a"), want)
		}
		ask3(d, c, down)
		checkHas(t, d, 4, "a=abc|")
	}
}

func TestBreakAt(t *testing.T) {
	d := armed(t)
	checkErrno(t, "BreakAt(0)", d.BreakAt(0, true), ok)
	appends(t, d, ok, ok)
	d.BreakAt(3, false)
	appends(t, d, ok, ok, down, down, down)
	checkHas(t, d, 5, "a=|xxxx")
	if !d.Down() {
		t.Error("it is not down")
	}
	d.Crash(9)
	if d.Down() {
		t.Error("behind a crash it is down")
	}
	d.BreakAt(1, true)
	appends(t, d, down, down)
	checkHas(t, d, 6, "a=xxxx|x")
	d.Crash(0)
	appends(t, d, ok, ok, ok)
	checkHas(t, d, 9, "a=xxxx|xxx")
}

func TestBreakAtALaterAct(t *testing.T) {
	for n := 1; n <= 30; n++ {
		d := armed(t)
		d.BreakAt(n, n%2 == 0)
		for i := 1; i <= 35; i++ {
			want := ok
			if i >= n {
				want = down
			}
			if got := d.Append("a", []byte("x")); got != want || d.Down() != (i >= n) {
				t.Fatalf("BreakAt(%d): act %d tells %d, Down() = %v", n, i, got, d.Down())
			}
		}
		if want := n - n%2; d.Acts() != n || d.Used() != want {
			t.Fatalf("BreakAt(%d): %d acts, %d bytes, want %d", n, d.Acts(), d.Used(), want)
		}
	}
}

func TestBreakAtAgainAheadOfTheAct(t *testing.T) {
	for _, done := range []bool{false, true} {
		d := armed(t)
		d.BreakAt(1, !done)
		d.BreakAt(3, done)
		appends(t, d, ok, ok, down)
		want := 2
		if done {
			want = 3
		}
		if d.Used() != want {
			t.Errorf("done: %v: %d bytes", done, d.Used())
		}
	}
	d := armed(t)
	d.BreakAt(2, true)
	appends(t, d, ok)
	d.BreakAt(0, true)
	appends(t, d, ok, ok, ok)
	d.BreakAt(5, true)
	appends(t, d, ok)
	d.BreakAt(2, false)
	appends(t, d, ok, down)
	checkHas(t, d, 7, "a=|xxxxxx")
}

// Each of the seven breaks off, done or not; Read tells nothing even if it was done.
func TestEachActBreaksOff(t *testing.T) {
	for _, c := range everyAct() {
		for _, done := range []bool{false, true} {
			for keep := -1; keep <= 4; keep++ {
				checkRun(t, 20, []api.File{file("a", "abc")}, []call{
					{what: "Append", name: "a", data: "de"}, {what: "BreakAt", a: 1, done: done}, c, c, {what: "Crash", a: keep}, c,
				})
			}
		}
	}
	d := made(t, 20, file("a", "abc"))
	d.BreakAt(1, true)
	checkRead(t, d, "a", 0, 3, "", down)
	d.Crash(0)
	checkRead(t, d, "a", 0, 3, "abc", ok)
}

// What names, cuts and takes away lasts at once; and a Sync that was done, though it broke off, has made bytes last.
func TestWhatABrokenActLeaves(t *testing.T) {
	for _, c := range []struct {
		what string
		act  func(d *vdisk.Disk) api.Errno
		not  string
		done string
	}{
		{"Create", func(d *vdisk.Disk) api.Errno { return d.Create("c") }, "a=abc| b=x|", "a=abc| b=x| c=|"},
		{"Append", func(d *vdisk.Disk) api.Errno { return d.Append("a", []byte("f")) }, "a=abc| b=x|", "a=abc| b=x|"},
		{"Sync", func(d *vdisk.Disk) api.Errno { return d.Sync("a") }, "a=abc| b=x|", "a=abcde| b=x|"},
		{"Rename", func(d *vdisk.Disk) api.Errno { return d.Rename("a", "b") }, "a=abc| b=x|", "b=abc|"},
		{"Remove", func(d *vdisk.Disk) api.Errno { return d.Remove("a") }, "a=abc| b=x|", "b=x|"},
		{"Truncate", func(d *vdisk.Disk) api.Errno { return d.Truncate("a", 2) }, "a=abc| b=x|", "a=ab| b=x|"},
	} {
		for _, done := range []bool{false, true} {
			d := made(t, 20, file("a", "abc"), file("b", "x"))
			d.Append("a", []byte("de"))
			d.BreakAt(1, done)
			checkErrno(t, c.what, c.act(d), down)
			d.Crash(0)
			if done {
				checkHas(t, d, 2, c.done)
			} else {
				checkHas(t, d, 2, c.not)
			}
		}
	}
}

// For one act: it breaks off, and neither comes later, nor behind the crash.
func TestArmedInBothWaysForOneAct(t *testing.T) {
	for n := 1; n <= 3; n++ {
		for _, done := range []bool{false, true} {
			for _, failFirst := range []bool{false, true} {
				d := armed(t)
				if failFirst {
					d.FailAt(n)
				}
				d.BreakAt(n, done)
				if !failFirst {
					d.FailAt(n)
				}
				for i := 1; i < n; i++ {
					appends(t, d, ok)
				}
				appends(t, d, down, down)
				want := n - 1
				if done {
					want = n
				}
				if d.Used() != want || d.Acts() != n || !d.Down() {
					t.Errorf("both at %d, done: %v: %d bytes, %d acts, Down() = %v", n, done, d.Used(), d.Acts(), d.Down())
				}
				d.Crash(0)
				appends(t, d, ok, ok, ok, ok, ok)
			}
		}
	}
}

// An act that fails is one, and counts for what breaks off later.
func TestArmedToFailAheadOfBreakingOff(t *testing.T) {
	d := armed(t)
	d.FailAt(2)
	d.BreakAt(4, true)
	appends(t, d, ok, io, ok, down)
	checkHas(t, d, 4, "a=|xxx")
	d = armed(t)
	d.BreakAt(2, false)
	d.FailAt(1)
	appends(t, d, io, down)
	checkHas(t, d, 2, "a=|")
}

func TestArmedToBreakOffAheadOfFailing(t *testing.T) {
	d := armed(t)
	d.FailAt(3)
	d.BreakAt(2, true)
	appends(t, d, ok, down, down, down)
	d.Crash(9) // behind which it is armed no more
	appends(t, d, ok, ok, ok, ok)
	checkHas(t, d, 6, "a=xx|xxxx")
}

// One kind does not touch the other.
func TestFailAtAndBreakAtAreTwoThings(t *testing.T) {
	d := armed(t)
	d.BreakAt(3, true)
	d.FailAt(1)
	d.FailAt(0)
	appends(t, d, ok, ok, down)
	d = armed(t)
	d.FailAt(3)
	d.BreakAt(1, true)
	d.BreakAt(0, true)
	appends(t, d, ok, ok, io, ok, ok)
}

func TestArmedWhileTheDiskIsDown(t *testing.T) {
	for n := range 4 {
		d := armed(t)
		d.BreakAt(1, false)
		appends(t, d, down)
		checkErrno(t, "FailAt", d.FailAt(n), ok)
		checkErrno(t, "BreakAt", d.BreakAt(n, true), ok)
		appends(t, d, down, down, down)
		if !d.Down() {
			t.Error("it is up")
		}
		checkHas(t, d, 1, "a=|")
		d.Crash(0)
		appends(t, d, ok, ok, ok, ok, ok)
	}
}

// To be armed, and to crash, is no act.
func TestArmingIsNoAct(t *testing.T) {
	d := armed(t)
	d.FailAt(2)
	for range 5 {
		d.BreakAt(9, true)
		d.BreakAt(0, true)
		d.BreakAt(-1, true)
		d.FailAt(-1)
	}
	appends(t, d, ok)
	d.BreakAt(3, true)
	appends(t, d, io, ok, down)
	if d.Acts() != 4 {
		t.Errorf("there were %d acts", d.Acts())
	}
	d.Crash(0)
	d.Crash(1)
	if d.Acts() != 4 {
		t.Errorf("behind crashes there were %d acts", d.Acts())
	}
}
