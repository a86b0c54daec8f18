package plan_test

import (
	"bytes"
	"fmt"
	"testing"

	"salvor/api"
	"salvor/plan"
)

// Many segments with junk: each takes a number of its own, also where quarantine files are there already, and the time does not grow with the square of their number.
func TestManySegments(t *testing.T) {
	const count = 50000
	var l []api.File
	for n := range count {
		l = append(l, api.File{Name: fmt.Sprintf("seg-%08x.log", n+1), Data: []byte{'x'}})
		if n%2 == 1 {
			l = append(l, api.File{Name: fmt.Sprintf("bad-%08x.bin", n+1)})
		}
	}
	p, errno := plan.Deep(l, 4194304)
	if errno != api.OK || len(p.Steps) != 7*count || p.Report.Junk != count || len(p.Report.Files) != count {
		t.Fatalf("%d, %d steps, %d accounts", errno, len(p.Steps), len(p.Report.Files))
	}
	for n, a := range p.Report.Files {
		free := 2*n + 1 // every second number, as long as there are such files
		if n >= count/2 {
			free = n + count/2 + 1
		}
		if a.Name != fmt.Sprintf("seg-%08x.log", n+1) || a.Bad != fmt.Sprintf("bad-%08x.bin", free) {
			t.Fatalf("the account %d is %v", n, a)
		}
	}
	now, errno := plan.Apply(l, p.Steps...)
	if errno != api.OK || len(now) != 3*count+count/2 || plan.Peak(l, p.Steps...) != p.Peak {
		t.Fatalf("%d, %d files", errno, len(now))
	}
	if again, errno := plan.Deep(now, 4194304); errno != api.OK || len(again.Steps) != 0 {
		t.Fatalf("once more: %d, %d steps", errno, len(again.Steps))
	}
}

// A great segment, of as many frames as fit with its hint file; then with a byte of junk ahead.
func TestAGreatSegment(t *testing.T) {
	var s bytes.Buffer
	count := 0
	for ; s.Len() < 1000000; count++ {
		s.WriteString(whole(put(uint64(count+1), "k", "")))
	}
	l := []api.File{{Name: seg2, Data: s.Bytes()}}
	p, errno := plan.Deep(l, 4194304)
	if errno != api.OK || len(p.Steps) != 3 || p.Report.Frames != count || p.Report.Top != uint64(count) || len(p.Report.Files[0].Extents) != count {
		t.Fatalf("%d, %d steps, %d frames", errno, len(p.Steps), p.Report.Frames)
	}
	told := 0
	for place, r := range plan.View(l...) {
		if told++; r.LSN != uint64(told) || place.Segment != 2 {
			t.Fatalf("the record %d is %v, at %v", told, r, place)
		}
	}
	if told != count {
		t.Fatalf("View tells %d records", told)
	}
	now, _ := plan.Apply(l, p.Steps...)
	if again, errno := plan.Deep(now, sumOf(now)); errno != api.OK || len(again.Steps) != 0 || again.Peak != sumOf(now) {
		t.Fatalf("once more: %d, %d steps", errno, len(again.Steps))
	}
	l[0].Data = append([]byte("x"), s.Bytes()...)
	p, errno = plan.Deep(l, 4194304)
	if errno != api.OK || len(p.Steps) != 9 || !bytes.Equal(p.Steps[3].Data, s.Bytes()) || p.Report.Junk != 1 {
		t.Fatalf("with junk: %d, %d steps", errno, len(p.Steps))
	}
}

// Many files of one name, renamed again and again.
func TestManyFilesOfOneName(t *testing.T) {
	var l []api.File
	var steps []api.Step
	for n := range 20000 {
		l = append(l, api.File{Name: "a", Data: make([]byte, n%3)}, api.File{Name: "b", Data: make([]byte, 1)})
		steps = append(steps, rename("a", "b"))
	}
	// each rename takes away the first b: the second b and later ones are behind what was renamed, which is then the first
	steps = append(steps, write("c", string(make([]byte, 100000))))
	left := 20000 - 1 + (20000-1)%3 // of the b's all but the first, and the last a
	if got := plan.Peak(l, steps...); got != left+100000 {
		t.Errorf("Peak = %d, want %d", got, left+100000)
	}
}
