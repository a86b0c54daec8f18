package plan_test

import (
	"math"
	"slices"
	"strings"
	"testing"

	"salvor/api"
	"salvor/plan"
)

var (
	name60 = strings.Repeat("n", 60)
	name61 = strings.Repeat("n", 61)
)

// done holds what comes of files by one step, by Apply and by Peak.
func done(t *testing.T, l []api.File, step api.Step, want ...string) {
	t.Helper()
	checkApply(t, l, []api.Step{step}, files(want...), api.OK)
	checkPeak(t, l, []api.Step{step}, max(sumOf(l), sumOf(files(want...))))
}

// refused holds that a step cannot be done, alone, and with others ahead and behind; by Peak it changes nothing.
func refused(t *testing.T, l []api.File, step api.Step) {
	t.Helper()
	checkApply(t, l, []api.Step{step}, nil, api.ErrPlanArg)
	checkApply(t, l, []api.Step{write("fresh", "12"), step, remove("fresh")}, nil, api.ErrPlanArg)
	checkPeak(t, l, []api.Step{step}, sumOf(l))
	checkPeak(t, l, []api.Step{step, write("fresh", "12"), step, remove("fresh"), step}, sumOf(l)+2)
}

func TestApplyOfNoSteps(t *testing.T) {
	checkApply(t, nil, nil, nil, api.OK)
	checkApply(t, []api.File{}, []api.Step{}, nil, api.OK)
	checkApply(t, files("b", "x", "a", "", "ab", "y", "\xff", "z", "B", ""), nil, files("B", "", "a", "", "ab", "y", "b", "x", "\xff", "z"), api.OK)
	checkPeak(t, nil, nil, 0)
	checkPeak(t, []api.File{}, []api.Step{}, 0)
	checkPeak(t, files("b", "x", "a", "", "ab", "yz"), nil, 3)
}

func TestStepRemove(t *testing.T) {
	l := files("b", "xyz", "a", "q")
	done(t, l, remove("a"), "b", "xyz")
	done(t, l, remove("b"), "a", "q")
	done(t, files("a", ""), remove("a"))
	refused(t, l, remove("c"))
	refused(t, l, remove("A"))
	refused(t, l, remove("ab"))
	refused(t, nil, remove("a"))
	checkApply(t, l, []api.Step{remove("a"), remove("b")}, nil, api.OK)
	checkApply(t, l, []api.Step{remove("a"), remove("a")}, nil, api.ErrPlanArg)
	checkPeak(t, l, []api.Step{remove("a"), remove("a")}, 4)
}

func TestStepWrite(t *testing.T) {
	l := files("b", "xyz", "a", "q")
	done(t, l, write("c", "n"), "a", "q", "b", "xyz", "c", "n")
	done(t, l, write("aa", ""), "a", "q", "aa", "", "b", "xyz")
	done(t, l, api.Step{Op: api.StepWrite, Name: "c"}, "a", "q", "b", "xyz", "c", "")
	done(t, nil, write("c", "n"), "c", "n")
	refused(t, l, write("a", "n"))
	refused(t, l, write("a", "q"))
	refused(t, l, write("b", ""))
	checkApply(t, l, []api.Step{remove("a"), write("a", "new")}, files("a", "new", "b", "xyz"), api.OK)
	checkApply(t, l, []api.Step{write("c", "1"), write("c", "1")}, nil, api.ErrPlanArg)
	checkApply(t, l, []api.Step{write("c", "1"), remove("c"), write("c", "2")}, files("a", "q", "b", "xyz", "c", "2"), api.OK)
	checkPeak(t, l, []api.Step{write("c", "123"), write("c", "1234")}, 7)
	checkPeak(t, l, []api.Step{write("c", "123"), remove("b"), write("d", "1234")}, 8)
}

func TestStepSync(t *testing.T) {
	l := files("b", "xyz", "a", "q")
	done(t, l, sync("a"), "a", "q", "b", "xyz")
	done(t, l, sync("b"), "a", "q", "b", "xyz")
	refused(t, l, sync("c"))
	refused(t, nil, sync("a"))
	checkApply(t, l, []api.Step{write("c", "1"), sync("c"), sync("c")}, files("a", "q", "b", "xyz", "c", "1"), api.OK)
	checkApply(t, l, []api.Step{remove("a"), sync("a")}, nil, api.ErrPlanArg)
}

func TestStepRename(t *testing.T) {
	l := files("b", "xyz", "a", "q")
	done(t, l, rename("a", "a"), "a", "q", "b", "xyz") // onto itself
	done(t, l, rename("b", "a"), "a", "xyz")           // onto one that is there
	done(t, l, rename("a", "b"), "b", "q")
	done(t, l, rename("a", "z"), "b", "xyz", "z", "q") // onto one that is not
	done(t, l, rename("b", "0"), "0", "xyz", "a", "q")
	refused(t, l, rename("c", "a"))
	refused(t, l, rename("c", "c"))
	refused(t, l, rename("c", "d"))
	checkApply(t, l, []api.Step{rename("a", "c"), rename("b", "a"), rename("c", "b")}, files("a", "xyz", "b", "q"), api.OK)
	checkApply(t, l, []api.Step{rename("a", "c"), sync("a")}, nil, api.ErrPlanArg)
	checkApply(t, l, []api.Step{rename("a", "c"), sync("c"), write("a", "1")}, files("a", "1", "b", "xyz", "c", "q"), api.OK)
	checkApply(t, l, []api.Step{rename("a", "b"), rename("b", "b"), remove("b")}, nil, api.OK)
	checkApply(t, l, ahead("a", "new"), files("a", "new", "b", "xyz"), api.OK)
	checkPeak(t, l, ahead("a", "new"), 7)
	checkPeak(t, l, append(ahead("b", "12345"), ahead("a", "1234")...), 10)
}

func TestStepTruncate(t *testing.T) {
	l := files("b", "xyz", "a", "")
	done(t, l, truncate("b", 0), "a", "", "b", "")
	done(t, l, truncate("b", 2), "a", "", "b", "xy")
	done(t, l, truncate("b", 3), "a", "", "b", "xyz")
	done(t, l, truncate("a", 0), "a", "", "b", "xyz")
	for _, n := range []int{-1, -2, 4, 5, 1 << 31, 1 << 32, math.MaxInt, math.MinInt} {
		refused(t, l, truncate("b", n))
	}
	refused(t, l, truncate("a", 1))
	refused(t, l, truncate("a", -1))
	refused(t, l, truncate("c", 0))
	checkApply(t, l, []api.Step{truncate("b", 2), truncate("b", 1)}, files("a", "", "b", "x"), api.OK)
	checkApply(t, l, []api.Step{truncate("b", 1), truncate("b", 2)}, nil, api.ErrPlanArg)
	checkPeak(t, l, []api.Step{truncate("b", 1), write("c", "1234"), write("d", "1")}, 6)
	// behind what is left of a list there may be more memory: it is not the file's
	part := []api.File{{Name: "b", Data: []byte("xyzuvw")[:3]}}
	refused(t, part, truncate("b", 4))
}

func TestOpsThatAreNone(t *testing.T) {
	l := files("b", "xyz", "a", "q")
	for _, op := range []api.Op{0, -1, 6, 7, 255, 256, 257, 1 << 32, 1<<32 + 1, math.MaxInt, math.MinInt} {
		refused(t, l, api.Step{Op: op, Name: "a", To: "b", N: 1, Data: []byte("1")})
		refused(t, l, api.Step{Op: op, Name: "c", To: "d"})
		refused(t, l, api.Step{Op: op})
	}
}

func TestNamesInSteps(t *testing.T) {
	l := files("b", "xyz", "a", "q")
	both := files("n", "1", name60, "2")
	for _, name := range []string{"n", name60, "\x00", "/", strings.Repeat("\xff", 60)} {
		done(t, nil, write(name, "1"), name, "1")
		done(t, files(name, "1"), remove(name))
		done(t, files(name, "1"), sync(name), name, "1")
		done(t, files(name, "12"), truncate(name, 1), name, "1")
		done(t, files(name, "1"), rename(name, "to"), "to", "1")
		done(t, files("from", "1"), rename("from", name), name, "1")
		done(t, files(name, "1"), rename(name, name), name, "1")
	}
	done(t, both, rename("n", name60), name60, "1")
	for _, name := range []string{"", name61, strings.Repeat("n", 1000)} {
		for _, step := range []api.Step{remove(name), write(name, "1"), sync(name), rename(name, "c"), rename(name, name), truncate(name, 0), rename("a", name)} {
			refused(t, l, step)
			refused(t, both, step)
		}
		// Peak takes any files: such a file may be there, but no step can be done to it
		for _, step := range []api.Step{remove(name), sync(name), rename(name, "c"), rename(name, name), truncate(name, 0), rename("a", name)} {
			checkPeak(t, files(name, "12", "a", "3"), []api.Step{step, write("c", "4567")}, 7)
		}
		checkPeak(t, files("a", "3"), []api.Step{write(name, "12"), write("c", "4567")}, 5)
	}
}

// Fields that an Op does not need are not looked at.
func TestFieldsThatAreNotNeeded(t *testing.T) {
	l := files("b", "xyz", "a", "q")
	for _, to := range []string{"", "a", "b", "c", name61} {
		for _, n := range []int{-1, 0, 2, 3, 4, math.MinInt, math.MaxInt} {
			full := api.Step{To: to, N: n, Data: []byte("data")}
			step := func(op api.Op, name string) api.Step {
				full.Op, full.Name = op, name
				return full
			}
			done(t, l, step(api.StepRemove, "b"), "a", "q")
			done(t, l, step(api.StepWrite, "d"), "a", "q", "b", "xyz", "d", "data")
			done(t, l, step(api.StepSync, "b"), "a", "q", "b", "xyz")
			refused(t, l, step(api.StepRemove, "d"))
			refused(t, l, step(api.StepWrite, "b"))
			refused(t, l, step(api.StepSync, "d"))
			cut := api.Step{Op: api.StepTruncate, Name: "b", N: 1, To: to, Data: []byte("data")}
			done(t, l, cut, "a", "q", "b", "x")
			renamed := api.Step{Op: api.StepRename, Name: "b", To: "c", N: n, Data: []byte("data")}
			done(t, l, renamed, "a", "q", "c", "xyz")
		}
	}
}

// full is a list of files that have so many bytes together.
func full(count int) []api.File {
	b := make([]byte, count)
	return []api.File{{Name: "a", Data: b[:count/2]}, {Name: "b", Data: b[count/2:]}, {Name: "c"}}
}

func TestFilesThatMayNotBe(t *testing.T) {
	for _, l := range [][]api.File{
		files("", ""), files("", "x"), files("a", "x", "", "y"), files(name61, ""), files("a", "", name61, ""), files("a", "", "a", ""), files("a", "x", "a", "x"),
		files("a", "x", "b", "", "c", "", "a", "y"), files("b", "", "b", "x", "a", ""), full(4194305), full(5000000), full(8388608),
		files(seg1, "", seg1, ""), files(strings.Repeat("n", 1000), ""),
	} {
		checkApply(t, l, nil, nil, api.ErrPlanArg)
		checkApply(t, l, []api.Step{sync("a")}, nil, api.ErrPlanArg)
		checkApply(t, l, []api.Step{remove("a")}, nil, api.ErrPlanArg)
		checkApply(t, l, []api.Step{{Op: 9}}, nil, api.ErrPlanArg)
		checkDeep(t, l, 4194304, nil, api.Plan{}, api.ErrPlanArg)
		checkDeep(t, l, 0, nil, api.Plan{}, api.ErrPlanArg)
		checkDeep(t, l, -1, nil, api.Plan{}, api.ErrPlanArg)
	}
}

func TestFilesThatMayJustBe(t *testing.T) {
	for _, l := range [][]api.File{files("n", "", name60, "x", "\x00", "y", "N", ""), full(4194304), full(4194303)} {
		want, _ := applyByWords(l)
		checkApply(t, l, nil, want, api.OK)
		checkDeep(t, l, 4194304, nil, api.Plan{Peak: sumOf(l)}, api.OK)
	}
	// what comes of them may have more bytes
	l := full(4194304)
	checkApply(t, l, []api.Step{write("d", "12")}, append(slices.Clone(l), files("d", "12")...), api.OK)
	checkPeak(t, l, []api.Step{write("d", "12")}, 4194306)
	checkPeak(t, full(5000000), []api.Step{write("d", "12"), remove("a")}, 5000002)
}

// A step is refused when its turn comes, whatever stands behind it.
func TestApplyOfManySteps(t *testing.T) {
	l := files("b", "xyz", "a", "q")
	good := []api.Step{write("c", "12345"), rename("c", "b"), truncate("b", 4), sync("b"), remove("a"), write("a", "new"), rename("b", "z")}
	checkApply(t, l, good, files("a", "new", "z", "1234"), api.OK)
	checkPeak(t, l, good, 9)
	for i := range len(good) + 1 {
		bad := slices.Insert(slices.Clone(good), i, truncate("z", 5))
		checkApply(t, l, bad, nil, api.ErrPlanArg)
		checkPeak(t, l, bad, 9)
	}
}

// Files that stand twice count twice; a step finds the first of a name.
func TestPeakOfFilesThatStandTwice(t *testing.T) {
	l := files("a", "1", "b", "22", "a", "4444", "b", "88888888")
	n := sumOf(l)
	probe := func(size int) api.Step { return write("probe", strings.Repeat("p", size)) }
	for _, c := range []struct {
		steps []api.Step
		left  int // so many bytes are there behind the steps
	}{
		{nil, 15},
		{[]api.Step{remove("a")}, 14},
		{[]api.Step{remove("a"), remove("a")}, 10},
		{[]api.Step{remove("a"), remove("a"), remove("a")}, 10},
		{[]api.Step{remove("b")}, 13},
		{[]api.Step{truncate("a", 0)}, 14},
		{[]api.Step{truncate("a", 2)}, 15},                          // the first has 1 byte
		{[]api.Step{remove("a"), truncate("a", 2)}, 12},             // now the second is the first
		{[]api.Step{rename("a", "a")}, 15},                          // nothing changes
		{[]api.Step{rename("a", "b")}, 13},                          // the first b is no more
		{[]api.Step{rename("b", "a")}, 14},                          // the first a is no more
		{[]api.Step{rename("a", "b"), remove("b")}, 12},             // what is renamed stays at its place: it is the first b now
		{[]api.Step{rename("a", "b"), remove("b"), remove("b")}, 4}, // then the second b
		{[]api.Step{rename("a", "b"), rename("a", "b")}, 12},        // the first b is the one that was renamed
		{[]api.Step{rename("a", "b"), rename("a", "b"), remove("b")}, 8},
		{[]api.Step{rename("a", "b"), rename("b", "a")}, 9}, // the first b, of 1 byte, is a, and the a of 4 is no more
		{[]api.Step{rename("b", "a"), remove("a")}, 12},     // b, of 2 bytes, is ahead of the a of 4
		{[]api.Step{rename("b", "a"), rename("b", "a"), remove("a")}, 8},
		{[]api.Step{rename("a", "c"), remove("a")}, 11},
		{[]api.Step{rename("a", "c"), rename("a", "c")}, 14},
		{[]api.Step{write("a", "x")}, 15},
		{[]api.Step{remove("a"), write("a", "x")}, 14},
		{[]api.Step{remove("a"), remove("a"), write("a", "xx"), rename("b", "a"), remove("a")}, 8}, // what was written is no more, and b is a
		{[]api.Step{write("c", "xx"), rename("c", "a"), remove("a")}, 12},                          // c is behind the second a
	} {
		steps := append(slices.Clone(c.steps), probe(1000))
		if got := plan.Peak(l, steps...); got != c.left+1000 {
			t.Errorf("Peak of %s, %s = %d, want %d", sayFiles(l), saySteps(steps), got, c.left+1000)
		}
		if got := plan.Peak(l, c.steps...); got != peakByWords(l, c.steps...) || got < n {
			t.Errorf("Peak of %s, %s = %d", sayFiles(l), saySteps(c.steps), got)
		}
	}
}
