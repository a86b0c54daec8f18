package lab_test

import (
	"fmt"
	"math/rand"
	"runtime"
	"slices"
	"strings"
	"sync"
	"testing"
	"time"

	"salvor/api"
	"salvor/lab"
)

// drawer draws commands.
type drawer struct{ *rand.Rand }

// word says a text in one of the ways in which it may be said.
func (r drawer) word(text string) string {
	if text == "" {
		return "-"
	}
	var word strings.Builder
	for _, c := range []byte(text) {
		if c < 0x21 || c > 0x7e || c == '%' || text == "-" || len(text) < 100 && r.Intn(9) == 0 {
			fmt.Fprintf(&word, "%%%02x", c)
		} else {
			word.WriteByte(c)
		}
	}
	return word.String()
}

func (r drawer) key() string {
	return r.word(pick(r.Rand, "a", "a", "b", "b", "c", "d", "%", "-", "\xa7\xa6", "", key64, key65))
}

func (r drawer) value() string {
	return r.word(pick(r.Rand, "", "1", "2", "\xa7", "-", "a value of some words", strings.Repeat("v", r.Intn(90)), value49))
}

func (r drawer) name() string {
	return r.word(pick(r.Rand, seg1, seg1, seg2, seg3, hint1, hint2, bad1, "x", "y", seg1+".tmp", "seg-0000000a.log", "", name60, name61))
}

func (r drawer) number() string {
	return fmt.Sprint(pick(r.Rand, 0, 1, 2, 3, 5, r.Intn(20), r.Intn(20), r.Intn(80), 1000, 999999999))
}

// bytes are what a file may have: some frames, hint files, right ones and others, and junk.
func (r drawer) bytes() string {
	records := []api.Record{put(1, "a", "1"), put(2, "b", "2"), gone(3, "a"), put(4, "c", ""), put(2, "b", "3"), put(9, "d", "\xa7"), put(spent-1, "a", "last")}
	var some []api.Record
	for range 1 + r.Intn(3) {
		some = append(some, records[min(r.Intn(len(records)), r.Intn(len(records)))])
	}
	return r.word(pick(r.Rand, "", "junk", laid(some...), laid(some...), laid(some...), laid(some...)+"junk", laid(some[0])[:7]+laid(some...), rightFor(some...), rightFor(some[0]), lieAbout(some[0], "z"), "\xa7"))
}

// command draws one of all commands, each so often as it takes to come somewhere.
func (r drawer) command() string {
	switch r.Intn(40) {
	case 0:
		return "disk " + pick(r.Rand, "20", "100", "300", "1000", "4194304", "4194305", "0")
	case 1, 2, 3, 4:
		return fmt.Sprintf("open %s %s %s", pick(r.Rand, "deep", "fast"), pick(r.Rand, "64", "64", "100", "1000", "1048576", "63"), pick(r.Rand, "0", "0", "1", "2", "3", "1000", "1001"))
	case 5, 6, 7, 8, 9, 10, 11:
		return "put " + r.key() + " " + r.value()
	case 12, 13:
		return "get " + r.key()
	case 14, 15:
		return "sync"
	case 16:
		return "merge"
	case 17:
		return pick(r.Rand, "close", "last")
	case 18:
		return pick(r.Rand, "keys", "last")
	case 19, 20:
		return "all"
	case 21, 22:
		return "del" + strings.Repeat(" "+r.key(), 1+r.Intn(2)) + " " + r.key()
	case 23:
		return "fail " + r.number()
	case 24:
		return "break " + r.number() + pick(r.Rand, " before", " behind")
	case 25:
		return "crash " + r.number()
	case 26, 27:
		return "lay " + r.name() + " " + r.bytes()
	case 28:
		return fmt.Sprintf("flip %s %s %02x", r.name(), r.number(), r.Intn(256))
	case 29:
		return "cut " + r.name() + " " + r.number()
	case 30:
		return "lose " + r.name()
	case 31:
		return "copy " + r.name() + " " + r.name()
	case 32:
		return "move " + r.name() + " " + r.name()
	case 33:
		return "files"
	case 34:
		return "read " + r.name()
	case 35:
		return "used"
	}
	return pick(r.Rand, "all", "files", "keys", "put a 1", "put b "+r.value(), "open deep 64 0")
}

// line lays blanks about a command's words.
func (r drawer) line(command string) string {
	blanks := func(least int) string { return strings.Repeat(" ", max(least, r.Intn(6)-3)) }
	line := blanks(0)
	for i, word := range strings.Split(command, " ") {
		if i > 0 {
			line += blanks(1)
		}
		line += word
	}
	return line + blanks(0)
}

// script draws some lines, each with a newline behind it.
func (r drawer) script(n int) []string {
	var l []string
	for range n {
		switch r.Intn(25) {
		case 0:
			l = append(l, pick(r.Rand, "", " ", "#", "# put a 1", "  # %", "#%zz"))
		default:
			l = append(l, r.line(r.command()))
		}
	}
	return l
}

// kinds are the commands with the answers' first words (and an error's number).
func kinds(script []string, answers string) []string {
	var l []string
	told := strings.Split(answers, "\n")
	for _, line := range script {
		word, _, _ := understood(line)
		if word == "" {
			continue
		}
		kind := strings.Fields(told[0])[0]
		if kind == "error" {
			kind = told[0]
		}
		told = told[1:]
		l = append(l, word+": "+kind)
	}
	return l
}

// all that a command may answer, as far as drawn scripts come there
var reached = map[string]string{
	"disk": "ok, error 70", "open": "ok, error 74, error 75, error 111, error 150",
	"put": "none, ok, error 73, error 74, error 75, error 151, error 152, error 153, error 154, error 155", "del": "none, ok, error 73, error 74, error 75, error 151, error 153, error 154, error 155",
	"get": "none, =, nothing, error 74, error 75, error 151, error 153", "sync": "none, ok, error 74, error 75, error 153, error 155", "merge": "none, ok, error 74, error 75, error 111, error 153, error 155",
	"close": "none, ok, error 74, error 75, error 153", "keys": "none, keys", "all": "none, all", "last": "none, last", "fail": "ok", "break": "ok", "crash": "ok",
	"lay": "ok, error 70, error 73", "flip": "ok, error 70, error 71", "cut": "ok, error 70, error 71", "lose": "ok, error 71", "copy": "ok, error 70, error 71, error 73", "move": "ok, error 70, error 71",
	"files": "files", "read": "=, error 71", "used": "used",
}

// Drawn scripts answer what the calls of the layers below answer; together they come to all answers that there are.
func TestDrawnScripts(t *testing.T) {
	t.Parallel()
	var lock sync.Mutex
	met := map[string]int{}
	parts(8, func(part int) {
		r := drawer{rand.New(rand.NewSource(int64(1600 + part)))}
		for range 1500 {
			script := r.script(1 + r.Intn(60))
			got, _, _ := checkWords(t, strings.Join(script, "\n"))
			lock.Lock()
			for _, kind := range kinds(script, got) {
				met[kind]++
			}
			lock.Unlock()
		}
	})
	for _, word := range words() {
		for _, answer := range strings.Split(reached[word], ", ") {
			if met[word+": "+answer] == 0 {
				t.Errorf("%s has never answered %s", word, answer)
			}
			delete(met, word+": "+answer)
		}
	}
	for kind, n := range met {
		t.Errorf("%s: %d times", kind, n)
	}
}

// parts does something so many times at once.
func parts(n int, do func(part int)) {
	var all sync.WaitGroup
	for part := range n {
		all.Go(func() { do(part) })
	}
	all.Wait()
}

// What stands behind a line changes nothing of the answers up to it.
func TestALongerScriptBeginsAlike(t *testing.T) {
	t.Parallel()
	r := drawer{source()}
	for range 60 {
		script := r.script(25)
		whole, _, _ := checkWords(t, strings.Join(script, "\n"))
		for n := range script {
			got, line, errno := lab.Run(strings.Join(script[:n], "\n"))
			if !strings.HasPrefix(whole, got) || strings.Count(got, "\n") != len(kinds(script[:n], whole)) || line != 0 || errno != api.OK {
				t.Fatalf("%q: of the first %d lines %q, %d, %d; of all %q", script, n, got, line, errno, whole)
			}
		}
	}
}

// Two scripts know nothing of one another, whether they run one behind the other or at once.
func TestScriptsByThemselves(t *testing.T) {
	t.Parallel()
	r := drawer{source()}
	var scripts, answers []string
	for range 100 {
		script := strings.Join(r.script(30), "\n")
		got, _, _ := checkWords(t, script)
		scripts, answers = append(scripts, script), append(answers, got)
	}
	again := func(i int) {
		if got, line, errno := lab.Run(scripts[i]); got != answers[i] || line != 0 || errno != api.OK {
			t.Errorf("%q: at first %q, now %q, %d, %d", scripts[i], answers[i], got, line, errno)
		}
	}
	for range 3 {
		for _, i := range r.Perm(len(scripts)) {
			lab.Run(pick(r.Rand, "what", "open deep 64 0\nput a 1\nbreak 1 before\nsync", "disk 0", strings.Repeat("#", 20001)))
			again(i)
			again(i)
		}
	}
	parts(8, func(part int) {
		for i := range scripts {
			again((i*7 + part*13) % len(scripts))
		}
	})
}

// A script with some bytes changed, left out or put in is what the words say of it.
func TestDamagedScripts(t *testing.T) {
	t.Parallel()
	counts := make([]map[api.Errno]int, 8)
	parts(8, func(part int) {
		counts[part] = map[api.Errno]int{}
		r := drawer{rand.New(rand.NewSource(int64(1700 + part)))}
		for range 1500 {
			script := []byte(strings.Join(r.script(1+r.Intn(8)), "\n"))
			for range 1 + r.Intn(3) {
				at := r.Intn(len(script) + 1)
				piece := pick(r.Rand, "", "", " ", "\n", "#", "%", "-", "0", "1", "a", "\x00", "\t", "\x7f", "\xff", string([]byte{byte(r.Intn(256))}))
				script = slices.Replace(script, at, min(at+r.Intn(2), len(script)), []byte(piece)...)
			}
			_, _, errno := checkWords(t, string(script))
			counts[part][errno]++
		}
	})
	for _, errno := range []api.Errno{api.OK, api.ErrLabLine} {
		n := 0
		for _, count := range counts {
			n += count[errno]
		}
		if n < 1000 {
			t.Errorf("Run has answered %d so often: %d", errno, n)
		}
	}
}

// No script ends in a panic, whatever its bytes; and each is what the words say of it.
func TestAnyBytes(t *testing.T) {
	t.Parallel()
	r := source()
	pieces := append(words(), "deep", "fast", "before", "behind", "a", "b", "-", "%00", "%", "%2", "0", "1", "64", "01", "ff", "999999999", "9999999999", "#", " ", " ", " ", " ", "\n", "\n", "\n", "\t", "\x00", "\xff", seg1)
	for n := range 20000 {
		script := ""
		if n%2 == 0 {
			b := make([]byte, r.Intn(40))
			r.Read(b)
			script = string(b)
		} else {
			for range r.Intn(12) {
				script += pick(r, pieces...)
			}
		}
		checkWords(t, script)
	}
	for n := range 65536 { // each two bytes, alone and behind a command that needs a text
		two := string([]byte{byte(n >> 8), byte(n)})
		for _, script := range []string{two, "get " + two} {
			lab.Run(script)
		}
		if n%17 == 0 {
			checkWords(t, two)
			checkWords(t, "get "+two)
		}
	}
}

// Long scripts of each command by itself, and of each drawn again and again.
func TestScriptsAsLongAsMayBe(t *testing.T) {
	t.Parallel()
	for _, word := range words() {
		line := fine[word][0] + "\n"
		checkWords(t, strings.Repeat(line, 20000/len(line)))
	}
	r := drawer{source()}
	for range 8 {
		script := strings.Join(r.script(2000), "\n")[:20000]
		checkWords(t, script[:strings.LastIndex(script, "\n")])
	}
}

// All goroutines that a call began have ended when it answers.
func TestNoGoroutineIsLeft(t *testing.T) {
	before := runtime.NumGoroutine()
	r := drawer{source()}
	for range 100 {
		lab.Run(strings.Join(r.script(30), "\n"))
		lab.Run("what")
	}
	for range 100 {
		if runtime.NumGoroutine() <= before {
			return
		}
		time.Sleep(10 * time.Millisecond) // one that has told that it ends may be seen for a moment
	}
	t.Errorf("%d goroutines, and there were %d", runtime.NumGoroutine(), before)
}
