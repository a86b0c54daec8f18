package vdisk_test

import (
	"fmt"
	"maps"
	"math"
	"math/rand"
	"slices"
	"strings"
	"testing"

	"salvor/api"
	"salvor/vdisk"
)

func source() *rand.Rand { return rand.New(rand.NewSource(7)) }

func pick[T any](r *rand.Rand, l ...T) T { return l[r.Intn(len(l))] }

// call is one that is asked of a disk; of the numbers, names and bytes those count that it takes.
type call struct {
	what     string
	name, to string
	data     string
	a, b     int
	done     bool
}

func (c call) String() string {
	switch c.what {
	case "Append":
		return fmt.Sprintf("Append(%q, %q)", c.name, c.data)
	case "Rename":
		return fmt.Sprintf("Rename(%q, %q)", c.name, c.to)
	case "Truncate":
		return fmt.Sprintf("Truncate(%q, %d)", c.name, c.a)
	case "Read":
		return fmt.Sprintf("Read(%q, %d, %d)", c.name, c.a, c.b)
	case "FailAt", "Crash":
		return fmt.Sprintf("%s(%d)", c.what, c.a)
	case "BreakAt":
		return fmt.Sprintf("BreakAt(%d, %v)", c.a, c.done)
	}
	return fmt.Sprintf("%s(%q)", c.what, c.name)
}

// acts are the seven.
var acts = []string{"Create", "Append", "Sync", "Rename", "Remove", "Truncate", "Read"}

func (c call) isAct() bool { return slices.Contains(acts, c.what) }

// answer is what came of a call.
type answer struct {
	read  string
	size  int
	errno api.Errno
}

func ask(d *vdisk.Disk, c call) answer {
	switch c.what {
	case "Create":
		return answer{errno: d.Create(c.name)}
	case "Append":
		return answer{errno: d.Append(c.name, []byte(c.data))}
	case "Sync":
		return answer{errno: d.Sync(c.name)}
	case "Rename":
		return answer{errno: d.Rename(c.name, c.to)}
	case "Remove":
		return answer{errno: d.Remove(c.name)}
	case "Truncate":
		return answer{errno: d.Truncate(c.name, c.a)}
	case "Read":
		b, errno := d.Read(c.name, c.a, c.b)
		return answer{read: string(b), errno: errno}
	case "Size":
		n, errno := d.Size(c.name)
		return answer{size: n, errno: errno}
	case "FailAt":
		return answer{errno: d.FailAt(c.a)}
	case "BreakAt":
		return answer{errno: d.BreakAt(c.a, c.done)}
	case "Crash":
		return answer{errno: d.Crash(c.a)}
	}
	panic(c.what)
}

// paper is a disk as the chapter's words have it.
type paper struct {
	capacity          int
	files             map[string]halves
	acts              uint64
	down              bool
	failing, breaking uint64 // the numbers of the acts for which it is armed; 0: none
	done              bool
}

// halves are a file's bytes: those that last, and those behind them.
type halves struct{ lasting, loose string }

func (h halves) whole() string { return h.lasting + h.loose }

func newPaper(capacity int, files ...api.File) *paper {
	p := &paper{capacity: capacity, files: map[string]halves{}}
	for _, f := range files {
		p.files[f.Name] = halves{lasting: string(f.Data)}
	}
	return p
}

func (p *paper) used() int {
	sum := 0
	for _, h := range p.files {
		sum += len(h.whole())
	}
	return sum
}

func wrongName(name string) bool { return name == "" || len(name) > 60 }

func (p *paper) refusal(c call) api.Errno {
	h, there := p.files[c.name]
	switch {
	case p.down:
		return api.ErrDiskDown
	case wrongName(c.name), c.what == "Rename" && wrongName(c.to):
		return api.ErrDiskArg
	case c.what == "Truncate" && c.a < 0, c.what == "Read" && (c.a < 0 || c.b < 0):
		return api.ErrDiskArg
	case c.what == "Create" && there:
		return api.ErrDiskThere
	case c.what != "Create" && !there:
		return api.ErrDiskNone
	case c.what == "Append" && p.used()+len(c.data) > p.capacity:
		return api.ErrDiskFull
	case c.what == "Truncate" && len(h.whole()) < c.a:
		return api.ErrDiskArg
	}
	return api.OK
}

// do does what an act does, and tells what it reads.
func (p *paper) do(c call) string {
	h := p.files[c.name]
	switch c.what {
	case "Create":
		p.files[c.name] = halves{}
	case "Append":
		p.files[c.name] = halves{h.lasting, h.loose + c.data}
	case "Sync":
		p.files[c.name] = halves{lasting: h.whole()}
	case "Rename":
		delete(p.files, c.name)
		p.files[c.to] = h
	case "Remove":
		delete(p.files, c.name)
	case "Truncate":
		still := min(len(h.lasting), c.a)
		p.files[c.name] = halves{h.whole()[:still], h.whole()[still:c.a]}
	case "Read":
		var read []byte
		for place := range len(h.whole()) {
			if place >= c.a && place-c.a < c.b {
				read = append(read, h.whole()[place])
			}
		}
		return string(read)
	}
	return ""
}

func (p *paper) act(c call) answer {
	if errno := p.refusal(c); errno != api.OK {
		return answer{errno: errno}
	}
	p.acts++
	if p.acts == p.breaking {
		if p.done {
			p.do(c)
		}
		p.down = true
		return answer{errno: api.ErrDiskDown}
	}
	if p.acts == p.failing {
		return answer{errno: api.ErrDiskIO}
	}
	return answer{read: p.do(c)}
}

func (p *paper) crash(keep int) {
	for name, h := range p.files {
		p.files[name] = halves{lasting: h.lasting + h.loose[:min(max(0, keep), len(h.loose))]}
	}
	p.down, p.failing, p.breaking = false, 0, 0
}

// numbered is the number of the act that is so far ahead; 0, if none is meant.
func (p *paper) numbered(ahead int) uint64 {
	if ahead == 0 {
		return 0
	}
	return p.acts + uint64(ahead)
}

func (p *paper) ask(c call) answer {
	if c.isAct() {
		return p.act(c)
	}
	switch c.what {
	case "Size":
		errno := p.refusal(c)
		if errno != api.OK {
			return answer{errno: errno}
		}
		return answer{size: len(p.files[c.name].whole())}
	case "Crash":
		p.crash(c.a)
		return answer{}
	}
	if c.a < 0 {
		return answer{errno: api.ErrDiskArg}
	}
	if c.what == "FailAt" {
		p.failing = p.numbered(c.a)
	} else {
		p.breaking, p.done = p.numbered(c.a), c.done
	}
	return answer{}
}

// tells is all that a disk tells, but for how many acts there were.
type tells struct {
	names, files, lasting string
	used, capacity        int
	down                  bool
}

// row is files as a text.
func row(l []api.File) string {
	s := ""
	for _, f := range l {
		s += fmt.Sprintf("%q %q;", f.Name, f.Data)
	}
	return s
}

// ranged is what an iterator over files tells.
func ranged(d *vdisk.Disk) []api.File {
	var l []api.File
	for name, b := range d.All() {
		l = append(l, api.File{Name: name, Data: b})
	}
	return l
}

func toldBy(d *vdisk.Disk) tells {
	return tells{fmt.Sprintf("%q", d.Names()), row(d.Files()), row(d.Lasting()), d.Used(), d.Capacity(), d.Down()}
}

func (p *paper) told() tells {
	names := slices.SortedFunc(maps.Keys(p.files), func(a, b string) int { return slices.Compare([]byte(a), []byte(b)) })
	var files, lasting []api.File
	for _, name := range names {
		files = append(files, api.File{Name: name, Data: []byte(p.files[name].whole())})
		lasting = append(lasting, api.File{Name: name, Data: []byte(p.files[name].lasting)})
	}
	return tells{fmt.Sprintf("%q", names), row(files), row(lasting), p.used(), p.capacity, p.down}
}

// checkTold holds what a disk tells against paper.
func checkTold(t *testing.T, d *vdisk.Disk, p *paper, run []call) {
	t.Helper()
	if got, want := toldBy(d), p.told(); got != want {
		t.Fatalf("behind %v it tells\n%+v, want\n%+v", run, got, want)
	}
	if got, want := row(ranged(d)), p.told().files; got != want {
		t.Fatalf("behind %v All tells\n%s, want\n%s", run, got, want)
	}
	if d.Acts() != int(p.acts) {
		t.Fatalf("behind %v there were %d acts, want %d", run, d.Acts(), p.acts)
	}
	for name, h := range p.files {
		want := answer{size: len(h.whole())}
		if p.down {
			want = answer{errno: api.ErrDiskDown}
		}
		if got := ask(d, call{what: "Size", name: name}); got != want {
			t.Fatalf("behind %v Size(%q) = %v, want %v", run, name, got, want)
		}
	}
}

// checkRun asks all calls of a run of a new disk, one behind the other.
func checkRun(t *testing.T, capacity int, files []api.File, run []call) {
	t.Helper()
	d, p := made(t, capacity, files...), newPaper(capacity, files...)
	for i, c := range run {
		if got, want := ask(d, c), p.ask(c); got != want {
			t.Fatalf("with %d bytes, %s, %v: %v, want %v", capacity, row(files), run[:i+1], got, want)
		}
		checkTold(t, d, p, run[:i+1])
	}
}

// made is a disk that may be.
func made(t *testing.T, capacity int, files ...api.File) *vdisk.Disk {
	t.Helper()
	d, errno := vdisk.New(capacity, files...)
	if d == nil || errno != api.OK {
		t.Fatalf("New(%d, %d files) = %v, %d", capacity, len(files), d, errno)
	}
	return d
}

func file(name, data string) api.File { return api.File{Name: name, Data: []byte(data)} }

func long(count int) string { return strings.Repeat("n", count) }

// someNames are few, so that a run often names a file that is there; the last two are none.
var someNames = []string{"a", "b", "a\x00", "\xff", long(60), "", long(61)}

func anyName(r *rand.Rand) string {
	if r.Intn(20) == 0 {
		return pick(r, someNames...)
	}
	return pick(r, someNames[:5]...)
}

func anyData(r *rand.Rand, most int) string {
	b := make([]byte, r.Intn(most+1))
	for i := range b {
		b[i] = pick(r, 'a'+byte(i), byte(r.Intn(256)))
	}
	return string(b)
}

func anyNumber(r *rand.Rand, most int) int {
	if r.Intn(15) == 0 {
		return pick(r, -1, -2, 64, 1<<32, math.MaxInt, math.MaxInt-1, math.MinInt, math.MinInt+1)
	}
	return r.Intn(most + 1)
}

func anyCall(r *rand.Rand) call {
	c := call{name: anyName(r), to: anyName(r), done: r.Intn(2) == 0}
	c.what = pick(r, append([]string{"Create", "Create", "Append", "Append", "Append", "Append", "Sync", "Truncate", "Size", "FailAt", "BreakAt", "Crash", "Crash"}, acts...)...)
	switch c.what {
	case "FailAt", "BreakAt":
		c.a = anyNumber(r, 6)
	case "Crash":
		c.a = anyNumber(r, 5)
	case "Truncate":
		c.a = anyNumber(r, pick(r, 2, 9))
	default:
		c.a, c.b = anyNumber(r, 9), anyNumber(r, 9)
	}
	c.data = anyData(r, pick(r, 1, 5, 20))
	return c
}

func anyFiles(r *rand.Rand, most int) []api.File {
	var l []api.File
	for _, name := range someNames[:5] {
		if r.Intn(3) == 0 {
			l = append(l, file(name, anyData(r, most)))
		}
	}
	r.Shuffle(len(l), func(i, k int) { l[i], l[k] = l[k], l[i] })
	return l
}

// anyRun is a disk and what is asked of it.
func anyRun(r *rand.Rand, count int) (int, []api.File, []call) {
	files := anyFiles(r, 6)
	capacity := newPaper(0, files...).used() + pick(r, 0, 1, 10, 30, 100)
	run := make([]call, count)
	for i := range run {
		run[i] = anyCall(r)
	}
	return capacity, files, run
}

// eachRun are the same runs for every test that asks for them.
func eachRun(test func(capacity int, files []api.File, run []call)) {
	r := source()
	for i := range 2500 {
		test(anyRun(r, i%60))
	}
}

// Of every act each answer comes up that it can give: else the runs would test little.
func TestTheRunsHaveEveryAnswer(t *testing.T) {
	type came struct {
		what  string
		errno api.Errno
		did   string
	}
	count := map[came]int{}
	eachRun(func(capacity int, files []api.File, run []call) {
		p := newPaper(capacity, files...)
		for _, c := range run {
			was, before := p.down, p.acts
			errno := p.ask(c).errno
			did := "refused"
			if p.acts > before {
				did = "an act"
			}
			if p.down && !was {
				did = fmt.Sprintf("breaks off, done: %v", p.done)
			}
			count[came{c.what, errno, did}]++
		}
	})
	for _, what := range acts {
		wanted := []came{
			{what, api.OK, "an act"}, {what, api.ErrDiskIO, "an act"}, {what, api.ErrDiskDown, "refused"}, {what, api.ErrDiskArg, "refused"},
			{what, api.ErrDiskDown, "breaks off, done: true"}, {what, api.ErrDiskDown, "breaks off, done: false"},
		}
		switch what {
		case "Create":
			wanted = append(wanted, came{what, api.ErrDiskThere, "refused"})
		case "Append":
			wanted = append(wanted, came{what, api.ErrDiskFull, "refused"}, came{what, api.ErrDiskNone, "refused"})
		default:
			wanted = append(wanted, came{what, api.ErrDiskNone, "refused"})
		}
		for _, w := range wanted {
			if count[w] < 15 {
				t.Errorf("%+v: %d times", w, count[w])
			}
		}
	}
}
