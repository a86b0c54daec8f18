package lab_test

import (
	"errors"
	"fmt"
	"math/rand"
	"regexp"
	"slices"
	"strconv"
	"strings"
	"testing"

	"salvor/api"
	"salvor/frame"
	"salvor/hint"
	"salvor/lab"
	"salvor/segment"
	"salvor/store"
	"salvor/vdisk"
)

func source() *rand.Rand { return rand.New(rand.NewSource(16)) }

func pick[T any](r *rand.Rand, l ...T) T { return l[r.Intn(len(l))] }

// the names that most tests need
const (
	seg1, seg2, seg3 = "seg-00000001.log", "seg-00000002.log", "seg-00000003.log"
	hint1, hint2     = "seg-00000001.hint", "seg-00000002.hint"
	bad1             = "bad-00000001.bin"
	spent            = 1<<64 - 1 // the greatest LSN
)

func put(lsn uint64, key, value string) api.Record {
	return api.Record{LSN: lsn, Kind: api.Put, Key: key, Value: value}
}

func gone(lsn uint64, key string) api.Record {
	return api.Record{LSN: lsn, Kind: api.Delete, Key: key}
}

func framed(f api.Frame) string {
	whole, errno := frame.Encode(f)
	if errno != api.OK {
		panic(errno)
	}
	return string(whole)
}

// laid is the frames of records, one behind the other.
func laid(l ...api.Record) string {
	s := ""
	for _, r := range l {
		s += framed(frame.Of(r))
	}
	return s
}

// rightFor is the hint file of a segment of these records.
func rightFor(l ...api.Record) string {
	right, errno := hint.Of([]byte(laid(l...)))
	if errno != api.OK {
		panic(errno)
	}
	return string(right)
}

// lieAbout is a hint file for a segment of one record of which it says that it has another key.
func lieAbout(r api.Record, key string) string {
	bytes := []byte(laid(r))
	p := api.Pointer{LSN: r.LSN, Kind: r.Kind, Len: len(bytes), Key: key}
	end := api.Ending{Count: 1, Print: segment.Print(bytes)}
	return framed(api.Frame{Kind: api.Hint, Pointer: p}) + framed(api.Frame{Kind: api.Foot, Ending: end})
}

// wordFor is the word that tells a text, by the chapter's words.
func wordFor(text string) string {
	if text == "" {
		return "-"
	}
	if text == "-" {
		return "%2d"
	}
	var word strings.Builder
	for _, c := range []byte(text) {
		if c == '%' || c < 0x21 || c > 0x7e {
			fmt.Fprintf(&word, "%%%02x", c)
		} else {
			word.WriteByte(c)
		}
	}
	return word.String()
}

// textFor is the text that a word says that may be one.
func textFor(word string) string {
	if word == "-" {
		return ""
	}
	return saysByte.ReplaceAllStringFunc(word, func(said string) string {
		n, _ := strconv.ParseUint(said[1:], 16, 8)
		return string([]byte{byte(n)})
	})
}

const (
	aNumber = " +(0|[1-9][0-9]{0,8})"
	aText   = " +(-|(?:[!-$&-~]|%[0-9a-f][0-9a-f])+)"
	aByte   = " +([0-9a-f][0-9a-f])"
)

// forms are the commands as they stand in the chapter's table.
var forms = map[string]string{
	"disk": aNumber, "open": " +(deep|fast)" + aNumber + aNumber,
	"put": aText + aText, "get": aText, "sync": "", "merge": "", "close": "", "keys": "", "all": "", "last": "",
	"del":  "((?:" + aText + ")+)",
	"fail": aNumber, "break": aNumber + " +(before|behind)", "crash": aNumber,
	"lay": aText + aText, "flip": aText + aNumber + aByte, "cut": aText + aNumber, "lose": aText,
	"copy": aText + aText, "move": aText + aText, "files": "", "read": aText, "used": "",
}

var (
	saysNothing = regexp.MustCompile("^ *(?:#[ -~]*)?$")
	saysByte    = regexp.MustCompile("%..")
	lines       = func() map[string]*regexp.Regexp {
		m := map[string]*regexp.Regexp{}
		for word, form := range forms {
			m[word] = regexp.MustCompile("^ *" + word + form + " *$")
		}
		return m
	}()
)

// understood is a line's command and what stands behind its word; no command, if it says nothing; false, if it may not be.
func understood(line string) (string, []string, bool) {
	if saysNothing.MatchString(line) {
		return "", nil, true
	}
	word, _, _ := strings.Cut(strings.TrimLeft(line, " "), " ")
	if lines[word] == nil {
		return "", nil, false
	}
	m := lines[word].FindStringSubmatch(line)
	switch {
	case m == nil:
		return "", nil, false
	case word == "del":
		return word, strings.Fields(m[1]), true
	}
	return word, m[1:], true
}

// desk does what a script says by calls of the layers below.
type desk struct {
	disk  *vdisk.Disk
	store *store.Store
}

// byWords is what Run is to tell.
func byWords(script string) (string, int, api.Errno) {
	if len(script) > 20000 {
		return "", 0, api.ErrLabLong
	}
	all := strings.Split(script, "\n")
	for i, line := range all {
		if _, _, may := understood(line); !may {
			return "", i + 1, api.ErrLabLine
		}
	}
	disk, _ := vdisk.New(4194304)
	d := &desk{disk: disk}
	out := ""
	for _, line := range all {
		if word, with, _ := understood(line); word != "" {
			out += d.do(word, with) + "\n"
		}
	}
	return out, 0, api.OK
}

func numberFor(word string) int {
	n, _ := strconv.Atoi(word)
	return n
}

func errnoSays(errno api.Errno) string {
	if errno == api.OK {
		return "ok"
	}
	return fmt.Sprintf("error %d", int(errno))
}

func errorSays(err error) string {
	if err == nil {
		return "ok"
	}
	return errnoSays(errors.Unwrap(err).(api.Errno))
}

func (d *desk) do(word string, with []string) string {
	switch word {
	case "disk":
		fresh, errno := vdisk.New(numberFor(with[0]))
		if errno == api.OK {
			d.disk, d.store = fresh, nil
		}
		return errnoSays(errno)
	case "open":
		s, report, err := store.Open(d.disk, api.Config{Limit: numberFor(with[1]), Every: numberFor(with[2]), Fast: with[0] == "fast"})
		d.store = nil
		if err != nil {
			return errorSays(err)
		}
		d.store = s
		return fmt.Sprintf("ok %d %d %d %d", len(s.Keys()), report.Top, report.Frames, report.Junk)
	case "fail":
		return errnoSays(d.disk.FailAt(numberFor(with[0])))
	case "break":
		return errnoSays(d.disk.BreakAt(numberFor(with[0]), with[1] == "behind"))
	case "crash":
		d.store = nil
		return errnoSays(d.disk.Crash(numberFor(with[0])))
	case "files":
		out := "files"
		for _, f := range d.disk.Files() {
			out += fmt.Sprintf(" %s %d", wordFor(f.Name), len(f.Data))
		}
		return out
	case "read":
		for _, f := range d.disk.Files() {
			if f.Name == textFor(with[0]) {
				return "= " + wordFor(string(f.Data))
			}
		}
		return "error 71"
	case "used":
		return fmt.Sprintf("used %d", d.disk.Used())
	case "lay", "flip", "cut", "lose", "copy", "move":
		return d.damage(word, with)
	}
	if d.store == nil {
		return "none"
	}
	return d.ask(word, with)
}

func (d *desk) ask(word string, with []string) string {
	var texts []string
	for _, w := range with {
		texts = append(texts, textFor(w))
	}
	switch word {
	case "put":
		return errorSays(d.store.Put(texts[0], texts[1]))
	case "del":
		return errorSays(d.store.Delete(texts...))
	case "get":
		value, has, err := d.store.Get(texts[0])
		if err != nil {
			return errorSays(err)
		}
		if !has {
			return "nothing"
		}
		return "= " + wordFor(value)
	case "sync":
		return errorSays(d.store.Sync())
	case "merge":
		return errorSays(d.store.Merge())
	case "close":
		return errorSays(d.store.Close())
	case "keys":
		out := "keys"
		for _, key := range d.store.Keys() {
			out += " " + wordFor(key)
		}
		return out
	case "all":
		out := "all"
		for key, value := range d.store.All() {
			out += " " + wordFor(key) + " " + wordFor(value)
		}
		return out
	case "last":
		return fmt.Sprintf("last %d", d.store.Last())
	}
	panic("a word that is none")
}

func (d *desk) damage(word string, with []string) string {
	there := map[string]string{}
	for _, f := range d.disk.Files() {
		there[f.Name] = string(f.Data)
	}
	name := textFor(with[0])
	bytes, is := there[name]
	if !is && word != "lay" {
		return "error 71"
	}
	switch word {
	case "lay":
		there[name] = textFor(with[1])
	case "flip":
		at := numberFor(with[1])
		if at >= len(bytes) {
			return "error 70"
		}
		x, _ := strconv.ParseUint(with[2], 16, 8)
		there[name] = bytes[:at] + string([]byte{bytes[at] ^ byte(x)}) + bytes[at+1:]
	case "cut":
		if numberFor(with[1]) > len(bytes) {
			return "error 70"
		}
		there[name] = bytes[:numberFor(with[1])]
	case "lose":
		delete(there, name)
	case "copy":
		there[textFor(with[1])] = bytes
	case "move":
		delete(there, name)
		there[textFor(with[1])] = bytes
	}
	var l []api.File
	for one, data := range there {
		l = append(l, api.File{Name: one, Data: []byte(data)})
	}
	fresh, errno := vdisk.New(d.disk.Capacity(), l...)
	if errno == api.OK {
		d.disk, d.store = fresh, nil
	}
	return errnoSays(errno)
}

// short is as much of a text as can be read.
func short(s string) string {
	if len(s) > 3000 {
		return fmt.Sprintf("%q .. (%d bytes)", s[:3000], len(s))
	}
	return fmt.Sprintf("%q", s)
}

// checkWords holds what Run tells of a script against the chapter's words. It is what it tells.
func checkWords(t *testing.T, script string) (string, int, api.Errno) {
	t.Helper()
	got, line, errno := lab.Run(script)
	if want, wantLine, wantErrno := byWords(script); got != want || line != wantLine || errno != wantErrno {
		t.Fatalf("Run(%s) =\n  %s, %d, %d, want\n  %s, %d, %d", short(script), short(got), line, errno, short(want), wantLine, wantErrno)
	}
	return got, line, errno
}

// session runs a script of commands, behind each of which stands its answer; and what is ahead of each of them by itself.
func session(t *testing.T, why string, l ...string) {
	t.Helper()
	script, answers := "", ""
	for i := 0; i < len(l); i += 2 {
		script += l[i] + "\n"
		answers += l[i+1] + "\n"
		if got, line, errno := lab.Run(script); got != answers || line != 0 || errno != api.OK {
			t.Errorf("%s: Run(%s) =\n  %s, %d, %d, want\n  %s", why, short(script), short(got), line, errno, short(answers))
			return
		}
	}
	checkWords(t, script)
}

// answered holds what a whole script answers.
func answered(t *testing.T, script, want string) {
	t.Helper()
	if got, _, _ := checkWords(t, script); got != want {
		t.Errorf("Run(%s) = %s, want %s", short(script), short(got), short(want))
	}
}

// refused wants a line to be the first one that may not be.
func refused(t *testing.T, script string, line int) {
	t.Helper()
	if got, at, errno := lab.Run(script); got != "" || at != line || errno != api.ErrLabLine {
		t.Errorf("Run(%s) = %s, %d, %d, want line %d refused", short(script), short(got), at, errno, line)
	}
	checkWords(t, script)
}

// words are the words of all commands in order.
func words() []string {
	var l []string
	for word := range forms {
		l = append(l, word)
	}
	slices.Sort(l)
	return l
}
