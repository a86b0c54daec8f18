package vdisk_test

import (
	"fmt"
	"slices"
	"testing"

	"salvor/api"
	"salvor/vdisk"
)

func checkSize(t *testing.T, d *vdisk.Disk, name string, want int, errno api.Errno) {
	t.Helper()
	if n, e := d.Size(name); n != want || e != errno {
		t.Errorf("Size(%q) = %d, %d, want %d, %d", name, n, e, want, errno)
	}
}

func TestSize(t *testing.T) {
	d := made(t, 20, file("a", "abc"), file("b", ""), file(long(60), "x"))
	checkSize(t, d, "a", 3, api.OK)
	checkSize(t, d, "b", 0, api.OK)
	checkSize(t, d, long(60), 1, api.OK)
	checkSize(t, d, "c", 0, api.ErrDiskNone)
	checkSize(t, d, "", 0, api.ErrDiskArg)
	checkSize(t, d, long(61), 0, api.ErrDiskArg)
	d.Append("a", []byte("de"))
	checkSize(t, d, "a", 5, api.OK)
	d.Truncate("a", 4)
	checkSize(t, d, "a", 4, api.OK)
	d.Rename("a", "b")
	checkSize(t, d, "a", 0, api.ErrDiskNone)
	checkSize(t, d, "b", 4, api.OK)
	d.Crash(0)
	checkSize(t, d, "b", 3, api.OK)
	d.Remove("b")
	checkSize(t, d, "b", 0, api.ErrDiskNone)
}

// What tells is no act: nothing is counted, nothing fails, nothing breaks off.
func TestWhatTellsIsNoAct(t *testing.T) {
	look := func(d *vdisk.Disk) {
		d.Size("a")
		d.Size("none")
		d.Size("")
		d.Names()
		d.Used()
		d.Capacity()
		d.Files()
		for range d.All() {
		}
		d.Lasting()
		d.Acts()
		d.Down()
	}
	d := made(t, 20, file("a", "abc"))
	d.FailAt(2)
	d.BreakAt(4, false)
	for i, want := range []api.Errno{api.OK, api.ErrDiskIO, api.OK, api.ErrDiskDown} {
		look(d)
		checkErrno(t, fmt.Sprintf("act %d", i+1), d.Append("a", []byte("x")), want)
	}
	look(d)
	checkHas(t, d, 4, "a=abc|xx")
	if !d.Down() {
		t.Error("it is not down")
	}
}

// sortedNames stand byte by byte in order, whatever letters they may be.
var sortedNames = []string{"\x00", "\x00\x00", "\x01", " ", "-", "0", "1", "10", "2", "A", "Z", "a", "a\x00", "a b", "aA", "aa", "ab", "b", "z", "\x7f", "\x80", "é", "ü", "\xff", "\xff\xff"}

func TestNamesInOrder(t *testing.T) {
	r := source()
	for range 50 {
		l := slices.Clone(sortedNames)
		r.Shuffle(len(l), func(i, k int) { l[i], l[k] = l[k], l[i] })
		half := len(l) / 2
		var files []api.File
		for _, name := range l[:half] {
			files = append(files, file(name, name))
		}
		d := made(t, 1000, files...)
		for _, name := range l[half:] {
			d.Create(name)
			d.Append(name, []byte(name))
			d.Sync(name)
		}
		if got := d.Names(); !slices.Equal(got, sortedNames) {
			t.Fatalf("Names() = %q", got)
		}
		for what, got := range map[string][]api.File{"Files": d.Files(), "Lasting": d.Lasting(), "All": ranged(d)} {
			if len(got) != len(sortedNames) {
				t.Fatalf("%s tells %d files", what, len(got))
			}
			for i, f := range got {
				if f.Name != sortedNames[i] || string(f.Data) != f.Name {
					t.Fatalf("%s tells %q with %q where %q belongs", what, f.Name, f.Data, sortedNames[i])
				}
			}
		}
	}
}

func TestTellsOfADiskWithoutFiles(t *testing.T) {
	d := made(t, 7)
	if got, want := toldBy(d), (tells{"[]", "", "", 0, 7, false}); got != want {
		t.Errorf("it tells %+v, want %+v", got, want)
	}
	for name := range d.All() {
		t.Errorf("All tells %q", name)
	}
}

func TestLastingTellsWhatLastsAlone(t *testing.T) {
	d := made(t, 20, file("a", "abc"), file("b", ""))
	d.Create("c")
	d.Append("c", []byte("xy"))
	d.Append("a", []byte("de"))
	if got, want := row(d.Lasting()), `"a" "abc";"b" "";"c" "";`; got != want {
		t.Errorf("Lasting tells %s, want %s", got, want)
	}
	if got, want := row(d.Files()), `"a" "abcde";"b" "";"c" "xy";`; got != want {
		t.Errorf("Files tells %s, want %s", got, want)
	}
}

// While the disk is down, all but Size tell what they would.
func TestTellsOfADiskThatIsDown(t *testing.T) {
	for _, done := range []bool{false, true} {
		d := made(t, 20, file("a", "abc"), file("b", "x"))
		d.Append("a", []byte("de"))
		d.BreakAt(1, done)
		d.Append("b", []byte("y"))
		want := tells{`["a" "b"]`, `"a" "abcde";"b" "x";`, `"a" "abc";"b" "x";`, 6, 20, true}
		if done {
			want.files, want.used = `"a" "abcde";"b" "xy";`, 7
		}
		if got := toldBy(d); got != want {
			t.Errorf("it tells %+v, want %+v", got, want)
		}
		if got := row(ranged(d)); got != want.files {
			t.Errorf("All tells %s, want %s", got, want.files)
		}
		checkSize(t, d, "a", 0, api.ErrDiskDown)
		if d.Acts() != 2 {
			t.Errorf("there were %d acts", d.Acts())
		}
	}
}

// It tells the files as they are when the range begins, not as they were when it was asked for.
func TestAllBegunAheadOfActs(t *testing.T) {
	d := made(t, 20, file("a", "abc"), file("b", "x"))
	all := d.All()
	told := func() string {
		var l []api.File
		for name, b := range all {
			l = append(l, api.File{Name: name, Data: b})
		}
		return row(l)
	}
	for i, step := range []struct {
		act  func()
		want string
	}{
		{func() {}, `"a" "abc";"b" "x";`},
		{func() { d.Append("a", []byte("d")) }, `"a" "abcd";"b" "x";`},
		{func() { d.Create("0") }, `"0" "";"a" "abcd";"b" "x";`},
		{func() { d.Remove("b") }, `"0" "";"a" "abcd";`},
		{func() { d.Crash(0) }, `"0" "";"a" "abc";`},
		{func() { d.BreakAt(1, true); d.Rename("a", "z") }, `"0" "";"z" "abc";`},
	} {
		step.act()
		for range 2 {
			if got := told(); got != step.want {
				t.Errorf("behind step %d All tells %s, want %s", i, got, step.want)
			}
		}
	}
}

// What is done to the disk within a range is not told by it, but by the next one.
func TestActsWithinARangeOfAll(t *testing.T) {
	d := made(t, 40, file("a", "a1"), file("b", "b1"), file("c", "c1"))
	all := d.All()
	var l []api.File
	for name, b := range all {
		l = append(l, api.File{Name: name, Data: b})
		switch name {
		case "a":
			d.Remove("b")
			d.Append("c", []byte("2"))
			d.Create("d")
			d.Create("A")
		case "b":
			d.Truncate("c", 0)
			d.Rename("c", "e")
			d.Crash(0)
			d.BreakAt(1, true)
			d.Remove("a")
		}
	}
	if got, want := row(l), `"a" "a1";"b" "b1";"c" "c1";`; got != want {
		t.Errorf("All tells %s, want %s", got, want)
	}
	if got, want := row(ranged(d)), `"A" "";"d" "";"e" "";`; got != want {
		t.Errorf("All tells %s, want %s", got, want)
	}
}

func TestAllLeftEarly(t *testing.T) {
	d := made(t, 0, manyFiles(10)...)
	all := d.All()
	for stop := range 11 {
		var seen []string
		for name := range all {
			if len(seen) == stop {
				break
			}
			seen = append(seen, name)
		}
		if !slices.Equal(seen, d.Names()[:stop]) {
			t.Errorf("till %d it tells %q", stop, seen)
		}
		calls := 0
		all(func(string, []byte) bool { calls++; return calls < stop })
		if want := min(max(stop, 1), 10); calls != want {
			t.Errorf("who stops at %d is called %d times, want %d", stop, calls, want)
		}
	}
	if d.Acts() != 0 {
		t.Errorf("there were %d acts", d.Acts())
	}
}

func TestAllWithinARangeOfItself(t *testing.T) {
	d := made(t, 10, file("a", "1"), file("b", "2"), file("c", "3"))
	all := d.All()
	got := ""
	for outer, b := range all {
		got += outer + string(b) + "("
		for inner, c := range all {
			if inner == "c" {
				break
			}
			got += inner + string(c)
			c[0] = '!'
		}
		got += ")"
	}
	if want := "a1(a1b2)b2(a1b2)c3(a1b2)"; got != want {
		t.Errorf("it tells %s, want %s", got, want)
	}
}
