package vdisk_test

import (
	"math"
	"testing"

	"salvor/api"
	"salvor/vdisk"
)

// crashed is a disk with files of which none, some and all bytes last.
func crashed(t *testing.T) *vdisk.Disk {
	t.Helper()
	d := made(t, 40, file("a", "abc"), file("b", ""), file("c", "xyz"), file("e", ""))
	d.Append("a", []byte("de"))
	d.Append("b", []byte("1234"))
	d.Create("d")
	return d
}

func TestCrash(t *testing.T) {
	for _, c := range []struct {
		keep int
		a, b string
	}{
		{0, "abc", ""}, {1, "abcd", "1"}, {2, "abcde", "12"}, {3, "abcde", "123"}, {4, "abcde", "1234"}, {5, "abcde", "1234"},
		{1 << 32, "abcde", "1234"}, {math.MaxInt - 1, "abcde", "1234"}, {math.MaxInt, "abcde", "1234"},
		{-1, "abc", ""}, {-4, "abc", ""}, {math.MinInt, "abc", ""}, {math.MinInt + 1, "abc", ""},
	} {
		for _, broken := range []bool{false, true} {
			d := crashed(t)
			acts := 3
			if broken {
				d.BreakAt(1, false)
				d.Sync("a")
				acts++
			}
			checkErrno(t, "Crash", d.Crash(c.keep), api.OK)
			checkHas(t, d, acts, "a="+c.a+"|", "b="+c.b+"|", "c=xyz|", "d=|", "e=|")
			if d.Down() || d.Capacity() != 40 {
				t.Errorf("Down() = %v, Capacity() = %d", d.Down(), d.Capacity())
			}
			checkErrno(t, "Append behind a crash", d.Append("a", []byte("!")), api.OK)
			checkHas(t, d, acts+1, "a="+c.a+"|!", "b="+c.b+"|", "c=xyz|", "d=|", "e=|")
		}
	}
}

// What is left lasts: a second crash takes no more, whatever it keeps.
func TestCrashTwice(t *testing.T) {
	for keep := -1; keep <= 5; keep++ {
		for again := -1; again <= 5; again++ {
			d := crashed(t)
			d.Crash(keep)
			want := toldBy(d)
			checkErrno(t, "Crash", d.Crash(again), api.OK)
			if got := toldBy(d); got != want {
				t.Errorf("Crash(%d), Crash(%d): %+v, want %+v", keep, again, got, want)
			}
		}
	}
}

func TestCrashOfADiskThatIsArmed(t *testing.T) {
	for n := 1; n <= 4; n++ {
		d := crashed(t)
		d.FailAt(n)
		d.Crash(0)
		appends(t, d, ok, ok, ok, ok, ok)
		d.BreakAt(n, true)
		d.Crash(0)
		appends(t, d, ok, ok, ok, ok, ok)
		d.FailAt(n)
		d.BreakAt(n, false)
		d.Crash(0)
		appends(t, d, ok, ok, ok, ok, ok)
		d.BreakAt(1, false) // it can be armed anew
		appends(t, d, down)
	}
}

func TestCrashOfADiskWithoutFiles(t *testing.T) {
	d := made(t, 0)
	checkErrno(t, "Crash", d.Crash(0), api.OK)
	checkErrno(t, "Crash", d.Crash(math.MaxInt), api.OK)
	checkHas(t, d, 0)
}

// What was cut off by a crash is not there when more is laid behind.
func TestWhatIsLaidBehindACrash(t *testing.T) {
	d := made(t, 10, file("a", "ab"))
	d.Append("a", []byte("cdefgh"))
	d.Crash(1)
	d.Append("a", []byte("X"))
	checkHas(t, d, 2, "a=abc|X")
	d.Sync("a")
	d.Append("a", []byte("YZ"))
	d.Crash(1)
	checkHas(t, d, 4, "a=abcXY|")
}

func TestTheChaptersExamples(t *testing.T) {
	d := made(t, 100)
	d.Create("a")
	d.Append("a", []byte("abc"))
	d.Sync("a")
	d.Append("a", []byte("de"))
	d.Crash(1)
	checkHas(t, d, 4, "a=abcd|")

	for keep, want := range []string{"a=|", "a=x|"} {
		d = made(t, 100, file("a", ""))
		d.BreakAt(2, true)
		checkErrno(t, "Append", d.Append("a", []byte("x")), api.OK)
		checkErrno(t, "Append", d.Append("a", []byte("y")), api.ErrDiskDown)
		checkRead(t, d, "a", 0, 9, "", api.ErrDiskDown)
		checkHas(t, d, 2, "a=|xy")
		d.Crash(keep)
		checkHas(t, d, 2, want)
	}

	d = made(t, 100)
	d.FailAt(1)
	checkErrno(t, "Append", d.Append("a", []byte("x")), api.ErrDiskNone)
	checkErrno(t, "Create", d.Create("b"), api.ErrDiskIO)
	checkHas(t, d, 1)
	checkErrno(t, "Create", d.Create("b"), api.OK)
	checkHas(t, d, 2, "b=|")
}
