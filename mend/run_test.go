package mend_test

import (
	"math"
	"slices"
	"strings"
	"testing"

	"salvor/api"
	"salvor/mend"
	"salvor/vdisk"
)

// ran holds what Run of steps tells, how many acts it asks for, and which files there are then.
func ran(t *testing.T, d *vdisk.Disk, steps []api.Step, count int, errno api.Errno, acts int, then ...string) {
	t.Helper()
	before, earlier := sayDisk(d), d.Acts()
	if got, gotErrno := mend.Run(d, steps...); got != count || gotErrno != errno {
		t.Errorf("Run of %s on %s = %d, %d, want %d, %d", saySteps(steps), before, got, gotErrno, count, errno)
	}
	if got := d.Acts() - earlier; got != acts {
		t.Errorf("Run of %s on %s: %d acts, want %d", saySteps(steps), before, got, acts)
	}
	if got := d.Files(); !sameFiles(got, files(then...)) {
		t.Errorf("Run of %s on %s leaves %s, want %s", saySteps(steps), before, sayFiles(got), sayFiles(files(then...)))
	}
}

// some is a disk with three files.
func some(t *testing.T) *vdisk.Disk {
	t.Helper()
	return diskOf(t, 20, files("a", "alpha", "b", "be", "c", "")...)
}

// broken is a disk that is down.
func broken(t *testing.T, d *vdisk.Disk) *vdisk.Disk {
	t.Helper()
	d.BreakAt(1, false)
	if errno := d.Create("breaks"); errno != api.ErrDiskDown {
		t.Fatalf("the disk is up: %d", errno)
	}
	return d
}

var asItWas = []string{"a", "alpha", "b", "be", "c", ""}

func TestRunOfNoSteps(t *testing.T) {
	ran(t, some(t), nil, 0, api.OK, 0, asItWas...)
	ran(t, some(t), []api.Step{}, 0, api.OK, 0, asItWas...)
	ran(t, diskOf(t, 0), nil, 0, api.OK, 0)
	ran(t, broken(t, some(t)), nil, 0, api.OK, 0, asItWas...)
	d := some(t)
	d.FailAt(1)
	ran(t, d, nil, 0, api.OK, 0, asItWas...)
	ran(t, d, []api.Step{sync("a")}, 0, api.ErrDiskIO, 1, asItWas...)
}

func TestRunOfEachStep(t *testing.T) {
	ran(t, some(t), []api.Step{remove("a")}, 1, api.OK, 1, "b", "be", "c", "")
	ran(t, some(t), []api.Step{write("d", "delta")}, 1, api.OK, 2, "a", "alpha", "b", "be", "c", "", "d", "delta")
	ran(t, some(t), []api.Step{sync("a")}, 1, api.OK, 1, asItWas...)
	ran(t, some(t), []api.Step{rename("a", "d")}, 1, api.OK, 1, "b", "be", "c", "", "d", "alpha")
	ran(t, some(t), []api.Step{truncate("a", 2)}, 1, api.OK, 1, "a", "al", "b", "be", "c", "")
	ran(t, some(t), []api.Step{truncate("a", 0), truncate("b", 2), truncate("c", 0)}, 3, api.OK, 3, "a", "", "b", "be", "c", "")
	ran(t, some(t), []api.Step{remove("c"), remove("a"), write("a", "1"), write("c", "23"), rename("c", "d"), truncate("d", 1), sync("d")}, 7, api.OK, 9, "a", "1", "b", "be", "d", "2")
	ran(t, diskOf(t, 9), []api.Step{write(name60, "n"), rename(name60, "\x00"), sync("\x00"), truncate("\x00", 1)}, 4, api.OK, 5, "\x00", "n")
}

func TestRunOfAWriteWithoutBytes(t *testing.T) {
	for _, data := range [][]byte{nil, {}, make([]byte, 0, 9)} {
		step := api.Step{Op: api.StepWrite, Name: "d", Data: data}
		ran(t, some(t), []api.Step{step}, 1, api.OK, 1, "a", "alpha", "b", "be", "c", "", "d", "")
		full := diskOf(t, 3, files("a", "123")...)
		ran(t, full, []api.Step{step, sync("d")}, 2, api.OK, 2, "a", "123", "d", "")
		armed := some(t)
		armed.FailAt(2) // there is no second act
		ran(t, armed, []api.Step{step}, 1, api.OK, 1, "a", "alpha", "b", "be", "c", "", "d", "")
		ran(t, armed, []api.Step{remove("d")}, 0, api.ErrDiskIO, 1, "a", "alpha", "b", "be", "c", "", "d", "")
	}
}

// What a write lays down lasts when it is synced, and not ahead of that.
func TestRunAndWhatLasts(t *testing.T) {
	lasts := func(d *vdisk.Disk, want ...string) {
		t.Helper()
		if got := d.Lasting(); !sameFiles(got, files(want...)) {
			t.Errorf("what lasts: %s, want %s", sayFiles(got), sayFiles(files(want...)))
		}
	}
	d := some(t)
	ran(t, d, []api.Step{write("d", "delta"), rename("b", "e")}, 2, api.OK, 3, "a", "alpha", "c", "", "d", "delta", "e", "be")
	lasts(d, "a", "alpha", "c", "", "d", "", "e", "be")
	ran(t, d, []api.Step{sync("a")}, 1, api.OK, 1, "a", "alpha", "c", "", "d", "delta", "e", "be")
	lasts(d, "a", "alpha", "c", "", "d", "", "e", "be")
	ran(t, d, []api.Step{sync("d"), remove("e"), truncate("a", 1)}, 3, api.OK, 3, "a", "a", "c", "", "d", "delta")
	lasts(d, "a", "a", "c", "", "d", "delta")
	d = some(t)
	ran(t, d, []api.Step{write("d", "delta"), rename("d", "a")}, 2, api.OK, 3, "a", "delta", "b", "be", "c", "")
	lasts(d, "a", "", "b", "be", "c", "")
}

// What the disk refuses is no act, changes nothing, and is told as it is.
func TestRunOfStepsThatTheDiskRefuses(t *testing.T) {
	refused := func(errno api.Errno, step api.Step) {
		t.Helper()
		ran(t, some(t), []api.Step{step}, 0, errno, 0, asItWas...)
		ran(t, some(t), []api.Step{sync("a"), step, remove("a")}, 1, errno, 1, asItWas...)
		ran(t, some(t), []api.Step{sync("a"), truncate("a", 5), step}, 2, errno, 2, asItWas...)
		ran(t, broken(t, some(t)), []api.Step{step}, 0, api.ErrDiskDown, 0, asItWas...)
	}
	for _, name := range []string{"", name61, strings.Repeat("x", 1000)} {
		for _, step := range []api.Step{remove(name), write(name, "x"), write(name, ""), sync(name), rename(name, "d"), rename("a", name), rename(name, name), truncate(name, 0)} {
			refused(api.ErrDiskArg, step)
		}
	}
	for _, name := range []string{"d", "A", "aa", name60, "a\x00"} {
		for _, step := range []api.Step{remove(name), sync(name), rename(name, "a"), rename(name, name), truncate(name, 0), truncate(name, 1)} {
			refused(api.ErrDiskNone, step)
		}
	}
	for _, step := range []api.Step{write("a", "new"), write("a", ""), write("b", "be"), write("c", "")} {
		refused(api.ErrDiskThere, step)
	}
	for _, step := range []api.Step{truncate("a", -1), truncate("a", 6), truncate("c", 1), truncate("a", math.MinInt), truncate("a", math.MaxInt), truncate("none", -1)} {
		refused(api.ErrDiskArg, step)
	}
}

func TestRunOnADiskThatIsDown(t *testing.T) {
	for _, step := range []api.Step{remove("a"), write("d", "x"), write("d", ""), sync("a"), rename("a", "d"), truncate("a", 1)} {
		d := broken(t, some(t))
		ran(t, d, []api.Step{step}, 0, api.ErrDiskDown, 0, asItWas...)
		ran(t, d, []api.Step{step, sync("b")}, 0, api.ErrDiskDown, 0, asItWas...)
		d.Crash(0)
		if count, errno := mend.Run(d, step); count != 1 || errno != api.OK {
			t.Errorf("Run of %s behind a crash: %d, %d", saySteps([]api.Step{step}), count, errno)
		}
	}
}

// The file that was created is there, whatever becomes of its bytes.
func TestRunOfAWriteThatIsDoneByHalves(t *testing.T) {
	there := []string{"a", "alpha", "b", "be", "c", "", "d", ""}
	step := write("d", "delta")
	d := some(t)
	d.FailAt(2)
	ran(t, d, []api.Step{step}, 0, api.ErrDiskIO, 2, there...)
	ran(t, d, []api.Step{step}, 0, api.ErrDiskThere, 0, there...)
	d = some(t)
	d.FailAt(3)
	ran(t, d, []api.Step{sync("a"), step, sync("d")}, 1, api.ErrDiskIO, 3, there...)
	d = some(t)
	d.BreakAt(2, false)
	ran(t, d, []api.Step{step, sync("d")}, 0, api.ErrDiskDown, 2, there...)
	d.Crash(9)
	ran(t, d, nil, 0, api.OK, 0, there...)
	d = some(t)
	d.BreakAt(2, true) // the bytes are there, but the step is not answered for
	ran(t, d, []api.Step{step, sync("d")}, 0, api.ErrDiskDown, 2, "a", "alpha", "b", "be", "c", "", "d", "delta")
	d.Crash(2)
	ran(t, d, nil, 0, api.OK, 0, "a", "alpha", "b", "be", "c", "", "d", "de")
	ran(t, some(t), []api.Step{write("d", "123456789012345")}, 0, api.ErrDiskFull, 1, there...)
	ran(t, some(t), []api.Step{sync("a"), write("d", "123456789012345"), remove("a")}, 1, api.ErrDiskFull, 2, there...)
	ran(t, some(t), []api.Step{write("d", "1234567890123"), sync("d")}, 2, api.OK, 3, "a", "alpha", "b", "be", "c", "", "d", "1234567890123") // just as much as there is room
	d = some(t)
	d.FailAt(1)
	ran(t, d, []api.Step{step}, 0, api.ErrDiskIO, 1, asItWas...)
	d = some(t)
	d.BreakAt(1, true)
	ran(t, d, []api.Step{step}, 0, api.ErrDiskDown, 1, there...)
	d = some(t)
	d.BreakAt(1, false)
	ran(t, d, []api.Step{step}, 0, api.ErrDiskDown, 1, asItWas...)
}

func TestRunOfARename(t *testing.T) {
	ran(t, some(t), []api.Step{rename("a", "a")}, 1, api.OK, 1, asItWas...)                       // onto itself
	ran(t, some(t), []api.Step{rename("a", "b")}, 1, api.OK, 1, "b", "alpha", "c", "")            // onto one that is there
	ran(t, some(t), []api.Step{rename("c", "a")}, 1, api.OK, 1, "a", "", "b", "be")               // without bytes
	ran(t, some(t), []api.Step{rename("b", "d")}, 1, api.OK, 1, "a", "alpha", "c", "", "d", "be") // onto one that is not
	ran(t, some(t), []api.Step{rename("a", "b"), rename("a", "c")}, 1, api.ErrDiskNone, 1, "b", "alpha", "c", "")
	ran(t, some(t), []api.Step{rename("a", "d"), rename("b", "a"), rename("d", "b")}, 3, api.OK, 3, "a", "be", "b", "alpha", "c", "")
	ran(t, some(t), []api.Step{rename("d", "d")}, 0, api.ErrDiskNone, 0, asItWas...)
}

var noOps = []api.Op{0, 6, -1, 7, 9, 5 + 1<<8, 1 + 1<<32, math.MinInt, math.MaxInt}

// An Op that is none, wherever it stands, has nothing done, whatever else is wrong.
func TestRunOfAnOpThatIsNone(t *testing.T) {
	good := []api.Step{remove("a"), write("d", "x"), sync("b"), rename("b", "e"), truncate("e", 1)}
	for _, op := range noOps {
		none := api.Step{Op: op, Name: "a", To: "b", Data: []byte("x")}
		ran(t, some(t), []api.Step{none}, 0, api.ErrPlanArg, 0, asItWas...)
		ran(t, some(t), []api.Step{{Op: op}}, 0, api.ErrPlanArg, 0, asItWas...)
		for at := range len(good) + 1 {
			steps := slices.Insert(slices.Clone(good), at, none)
			ran(t, some(t), steps, 0, api.ErrPlanArg, 0, asItWas...)
			ran(t, broken(t, some(t)), steps, 0, api.ErrPlanArg, 0, asItWas...)
			bad := slices.Insert(slices.Clone(steps), 0, remove("none"), write("", ""), write("a", "x"))
			ran(t, some(t), bad, 0, api.ErrPlanArg, 0, asItWas...)
			for _, f := range faults { // what is armed stays armed
				d := some(t)
				f.arm(d, 1)
				ran(t, d, steps, 0, api.ErrPlanArg, 0, asItWas...)
				ran(t, d, []api.Step{sync("a")}, 0, f.want, 1, asItWas...)
			}
		}
	}
}

func TestRunEndsAtTheFirstError(t *testing.T) {
	ran(t, some(t), []api.Step{remove("d"), remove("a")}, 0, api.ErrDiskNone, 0, asItWas...)
	ran(t, some(t), []api.Step{remove("a"), remove("a"), remove("b"), write("", "")}, 1, api.ErrDiskNone, 1, "b", "be", "c", "")
	ran(t, some(t), []api.Step{write("d", "1"), remove("c"), write("b", "2"), remove("a")}, 2, api.ErrDiskThere, 3, "a", "alpha", "b", "be", "d", "1")
	ran(t, some(t), []api.Step{truncate("a", 2), truncate("a", 3), truncate("a", 1)}, 1, api.ErrDiskArg, 1, "a", "al", "b", "be", "c", "")
}

// Fields that an Op does not need are not looked at, whatever stands there.
func TestRunAndFieldsThatAreNotNeeded(t *testing.T) {
	for _, to := range []string{"", "a", "b", "none", name61} {
		for _, n := range []int{0, -1, 1, 2, 100, math.MinInt, math.MaxInt} {
			for _, data := range []string{"", "x", strings.Repeat("x", 100)} {
				all := func(s api.Step) []api.Step {
					if s.Op != api.StepRename {
						s.To = to
					}
					if s.Op != api.StepTruncate {
						s.N = n
					}
					if s.Op != api.StepWrite {
						s.Data = []byte(data)
					}
					return []api.Step{s}
				}
				ran(t, some(t), all(remove("a")), 1, api.OK, 1, "b", "be", "c", "")
				ran(t, some(t), all(write("d", "1")), 1, api.OK, 2, "a", "alpha", "b", "be", "c", "", "d", "1")
				ran(t, some(t), all(write("d", "")), 1, api.OK, 1, "a", "alpha", "b", "be", "c", "", "d", "")
				ran(t, some(t), all(sync("a")), 1, api.OK, 1, asItWas...)
				ran(t, some(t), all(rename("a", "d")), 1, api.OK, 1, "b", "be", "c", "", "d", "alpha")
				ran(t, some(t), all(truncate("a", 3)), 1, api.OK, 1, "a", "alp", "b", "be", "c", "")
			}
		}
	}
}

// A fault at each act of a row of steps: what was done till then stays done, and as many steps are told as were answered for.
func TestRunWithAFaultAtEachAct(t *testing.T) {
	steps := slices.Concat(ahead("d", "delta"), []api.Step{truncate("a", 2), write("e", ""), remove("b")}, ahead("a", "A"), []api.Step{rename("c", "c"), sync("e"), remove("d")})
	acts := countActs(steps)
	if acts != 14 {
		t.Fatalf("%d acts", acts)
	}
	for n := 1; n <= acts+1; n++ {
		for _, f := range faults {
			one, other := some(t), some(t)
			f.arm(one, n)
			f.arm(other, n)
			count, errno := checkRun(t, one, other, steps...)
			if n > acts {
				if count != len(steps) || errno != api.OK {
					t.Errorf("with nothing armed: %d, %d", count, errno)
				}
				continue
			}
			whole := 0
			for countActs(steps[:whole+1]) < n {
				whole++
			}
			if count != whole || errno != f.want || one.Acts() != n || one.Down() != (f.want == api.ErrDiskDown) {
				t.Errorf("an act %d that %s: %d, %d, %d acts, want %d, %d", n, f.what, count, errno, one.Acts(), whole, f.want)
			}
		}
	}
}

func TestTheChaptersExamplesOfRun(t *testing.T) {
	steps := ahead("a", "xy")
	d := diskOf(t, 100)
	ran(t, d, steps, 3, api.OK, 4, "a", "xy")
	d = diskOf(t, 100)
	d.FailAt(2)
	ran(t, d, steps, 0, api.ErrDiskIO, 2, "a.tmp", "")
	ran(t, diskOf(t, 100), []api.Step{write("a", "x"), {Op: 9}}, 0, api.ErrPlanArg, 0)
}
