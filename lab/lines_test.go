package lab_test

import (
	"fmt"
	"strings"
	"testing"

	"salvor/api"
	"salvor/lab"
)

// of each command one that may be, and what it answers at first
var fine = map[string][2]string{
	"disk": {"disk 5", "ok"}, "open": {"open deep 64 0", "ok 0 0 0 0"}, "put": {"put a b", "none"}, "get": {"get a", "none"},
	"sync": {"sync", "none"}, "merge": {"merge", "none"}, "close": {"close", "none"}, "keys": {"keys", "none"}, "all": {"all", "none"},
	"last": {"last", "none"}, "del": {"del a", "none"}, "fail": {"fail 1", "ok"}, "break": {"break 1 before", "ok"}, "crash": {"crash 0", "ok"},
	"lay": {"lay a b", "ok"}, "flip": {"flip a 0 01", "error 71"}, "cut": {"cut a 0", "error 71"}, "lose": {"lose a", "error 71"},
	"copy": {"copy a b", "error 71"}, "move": {"move a b", "error 71"}, "files": {"files", "files"}, "read": {"read a", "error 71"}, "used": {"used", "used 0"},
}

func TestEachCommand(t *testing.T) {
	for _, word := range words() {
		session(t, word, fine[word][0], fine[word][1])
		answered(t, fine[word][0], fine[word][1]+"\n") // the last line without a newline
	}
}

// Just as many words as it needs.
func TestAWordTooFewOrTooMany(t *testing.T) {
	for _, word := range words() {
		l := strings.Split(fine[word][0], " ")
		for n := range len(l) {
			if n > 0 {
				refused(t, strings.Join(l[:n], " "), 1)
				refused(t, " "+strings.Join(l[:n], "  ")+" ", 1)
			}
		}
		for _, more := range []string{"a", "1", "01", "-", "before", "#", "# a"} {
			if script := fine[word][0] + " " + more; word != "del" {
				refused(t, script, 1)
				refused(t, script+" a", 1)
			} else {
				answered(t, script, "none\n")
			}
		}
		refused(t, "a "+fine[word][0], 1)
		refused(t, word+fine[word][0], 1)
	}
}

func TestManyKeys(t *testing.T) {
	script, keys := "open deep 1048576 0\nput a 1\nput k99 2\n", ""
	for i := range 1000 {
		keys += fmt.Sprintf(" k%d", i)
	}
	answered(t, script+"del"+keys+"\nkeys", "ok 0 0 0 0\nok\nok\nok\nkeys a\n")
	answered(t, script+"del"+keys+" -\nkeys", "ok 0 0 0 0\nok\nok\nerror 151\nkeys a k99\n")
	answered(t, script+"del - "+keys+"\nkeys", "ok 0 0 0 0\nok\nok\nerror 151\nkeys a k99\n")
}

// A word is what is given: no letter more, less or greater, and no % in it.
func TestAWordThatIsNoCommand(t *testing.T) {
	for _, word := range words() {
		behind := strings.TrimPrefix(fine[word][0], word)
		for _, other := range []string{word + "s", word[1:], word[:len(word)-1], strings.ToUpper(word), strings.ToUpper(word[:1]) + word[1:], word + "-", "-" + word, word + "#", fmt.Sprintf("%%%02x", word[0]) + word[1:], word[:1] + " " + word[1:]} {
			refused(t, other+behind, 1)
		}
	}
	for _, other := range []string{"-", "%", "a", "0", "1", "=", "ok", "delete", "shut", "truncate", "create", "append", "rename", "remove", "size", "names", "capacity", "acts", "down", "lasting", "flush", ";", "//", "close;", "put,", "\"sync\""} {
		refused(t, other, 1)
		refused(t, other+" a", 1)
	}
}

// What is given: other words than these may not stand there.
func TestGivenWords(t *testing.T) {
	for _, other := range []string{"Deep", "DEEP", "dee", "deepp", "fas", "fastt", "Fast", "%64eep", "deep,fast", "0", "1", "-", "slow", "before", "behind", "#"} {
		refused(t, "open "+other+" 64 0", 1)
	}
	for _, other := range []string{"Before", "befor", "beforee", "behin", "behindd", "beside", "%62efore", "0", "1", "-", "deep", "fast", "#", "true"} {
		refused(t, "break 1 "+other, 1)
	}
	refused(t, "open 64 0 deep", 1)
	refused(t, "open 64 deep 0", 1)
	refused(t, "break before 1", 1)
	refused(t, "flip a 01 0", 1)
	refused(t, "flip 0 a 01", 1)
	refused(t, "cut 0 a", 1)
	session(t, "both words of each",
		"open deep 64 0", "ok 0 0 0 0", "open fast 64 0", "ok 0 0 0 0", "break 1 before", "ok", "break 1 behind", "ok")
}

// numbered are the commands that need a number, each with a place for it.
var numbered = []string{"disk %s", "open deep %s 0", "open deep 64 %s", "open fast %s 0", "open fast 64 %s", "fail %s", "break %s before", "break %s behind", "crash %s", "flip a %s 01", "cut a %s"}

func TestNumbers(t *testing.T) {
	for _, form := range numbered {
		for _, n := range []string{"0", "1", "7", "9", "10", "64", "99", "100", "12345678", "99999999", "100000000", "123456789", "987654321", "999999999"} {
			script := fmt.Sprintf(form, n)
			if _, line, errno := checkWords(t, script); line != 0 || errno != api.OK {
				t.Errorf("Run(%q): line %d, %d", script, line, errno)
			}
		}
		for _, n := range []string{"", "00", "01", "000000000", "012345678", "0000000001", "1000000000", "1234567890", "4294967296", "9223372036854775808", "18446744073709551616", "99999999999999999999999", "-0", "-1", "+1", "1-", "1a", "a1", "1a1", "a", "0x1", "1e1", "1.0", "1,000", "1_0", "%31", "-", "#1", "\u0661", "1\x00"} {
			refused(t, fmt.Sprintf(form, n), 1)
		}
	}
	for c := byte(0x21); c < 0x7f; c++ { // each of them but a digit, ahead, between and behind
		if one := string([]byte{c}); c < '0' || c > '9' {
			for _, n := range []string{one, one + "1", "1" + one + "1", "1" + one, "0" + one, one + "0"} {
				refused(t, "used\nfail "+n, 2)
			}
		}
	}
	// they mean what they say
	session(t, "places", "lay a 0123456789abcdef", "ok", "flip a 10 01", "ok", "read a", "= 0123456789`bcdef", "cut a 12", "ok", "read a", "= 0123456789`b", "cut a 1", "ok", "read a", "= 0")
	session(t, "capacities", "disk 12", "ok", "lay a 0123456789ab", "ok", "lay a 0123456789abc", "error 73", "disk 123456789", "error 70", "disk 4194304", "ok", "lay a 0123456789abc", "ok")
}

// texted are the commands that need a text, each with a place for it.
var texted = []string{"put %s a", "put a %s", "get %s", "del %s", "del a %s", "del %s a", "lay %s a", "lay a %s", "flip %s 0 01", "cut %s 0", "lose %s", "copy %s a", "copy a %s", "move %s a", "move a %s", "read %s"}

func TestTexts(t *testing.T) {
	placed := func(form, word string) string { return strings.Replace(form, "%s", word, 1) }
	for _, form := range texted {
		for _, word := range []string{"a", "-", "--", "a-", "-a", "---", "%2d", "%2d%2d", "%25", "%2525", "%00", "%ff", "%a7%a6", "%20", "%0a", "a%20b", "%61", "a%61a", "0", "#", "#a", "!", "~", "!\"#$&'()*+,-./:;<=>?@[\\]^_`{|}~", "%7f%80", "=", "deep", "%09%0a%0d"} {
			script := placed(form, word)
			if _, line, errno := checkWords(t, script); line != 0 || errno != api.OK {
				t.Errorf("Run(%q): line %d, %d", script, line, errno)
			}
		}
		for _, word := range []string{"%", "%%", "a%", "%a", "a%a", "%0", "%2", "%-", "%--", "%A7", "%a", "%aG", "%Fa", "%aF", "%FF", "%4g", "%g4", "%4G", "%0A", "%x1", "%1x", "%+1", "%1+", "%1%", "%%25", "%25%", "%25%2", "a%zz", "% 25", "%2 5", "%\x005", "%\u00e900", "%u00e9", "\u00e9", "\x7f", "\x80", "a\tb", "a\x00", "\xa7"} {
			refused(t, placed(form, word), 1)
		}
	}
}

// What is said in many ways is told in one.
func TestTextsAreToldInOneWay(t *testing.T) {
	for n := range 256 {
		c := string([]byte{byte(n)})
		said := fmt.Sprintf("%%%02x", n)
		told := said
		if n >= 0x21 && n <= 0x7e && n != '%' {
			told = c
		}
		alone := told
		if c == "-" {
			alone = "%2d"
		}
		script := []string{
			"lay a " + said, "ok", "read a", "= " + alone,
			"lay " + said + " " + said + said, "ok", "files", "files " + inOrder("a 1", c, alone+" 2"),
			"read " + said, "= " + told + told,
			"lay a " + said + "x", "ok", "read a", "= " + told + "x",
			"lay a x" + said, "ok", "read a", "= x" + told,
			"open deep 64 0", "ok 0 0 0 0",
			"put " + said + " " + said, "ok", "keys", "keys " + alone, "all", "all " + alone + " " + alone, "get " + said, "= " + alone,
			"put " + said + " " + said + said + said, "ok", "all", "all " + alone + " " + told + told + told,
		}
		if c == "a" {
			continue // it stands for the other file here
		}
		session(t, said, script...)
	}
	session(t, "the empty one", "lay a -", "ok", "read a", "= -", "files", "files a 0", "open deep 64 0", "ok 0 0 0 0", "put a -", "ok", "get a", "= -", "all", "all a -", "put - a", "error 151", "put %2d -", "ok", "get -", "error 151", "get %2d", "= -", "keys", "keys %2d a")
	session(t, "- as a part", "lay - x", "error 70", "lay -- -x-", "ok", "read --", "= -x-", "read %2d%2d", "= -x-", "read %2d-", "= -x-", "files", "files -- 3")
	session(t, "% as a part", "lay %25 %2541", "ok", "read %25", "= %2541", "read %2525", "error 71", "lay %2525 %25%25", "ok", "files", "files %25 3 %2525 2")
}

// inOrder is two files, by the first one's name a and the other one's.
func inOrder(a, name, other string) string {
	if name < "a" {
		return other + " " + a
	}
	return a + " " + other
}

func TestBytes(t *testing.T) {
	for n := range 256 {
		word := fmt.Sprintf("%02x", n)
		session(t, word, "lay a %00a", "ok", "flip a 0 "+word, "ok", "read a", "= "+wordFor(string([]byte{byte(n)})+"a"), "flip a 0 "+word, "ok", "read a", "= %00a")
	}
	for _, word := range []string{"", "0", "1", "a", "00 ", "000", "001", "0a7", "a70", "0A", "A0", "AA", "fF", "Ff", "0g", "g0", "-1", "-", "+1", "0x", "x0", "%00", "%0", "1%", "0x01", "256", "0-", "##"} {
		if word == "00 " {
			answered(t, "flip a 0 "+word, "error 71\n")
			continue
		}
		refused(t, "flip a 0 "+word, 1)
	}
}

// A line's bytes: each of them in a word, in a comment, and by itself.
func TestEachByte(t *testing.T) {
	for n := range 256 {
		c := string([]byte{byte(n)})
		word := n >= 0x21 && n <= 0x7e && c != "%" // it may stand in a word as it is
		blank := c == " "
		where := []struct {
			script string
			well   bool
			line   int
		}{
			{"get " + c, word, 1},
			{"get a" + c, word || blank || c == "\n", 1},
			{"get a" + c + "a", word, 1},
			{"get " + c + "a", word || blank, 1},
			{"used\n# " + c + "\nused", word || c == "%" || blank || c == "\n", 2},
			{"used\n#" + c, word || c == "%" || blank || c == "\n", 2},
			{"used\n" + c + "\nused", blank || c == "\n" || c == "#", 2},
			{"used\nused\n" + c + "# a", blank || c == "\n" || c == "#", 3},
			{c + "used", blank || c == "\n" || c == "#", 1},
			{"used\nused" + c, blank || c == "\n", 2},
			{c, blank || c == "\n" || c == "#", 1},
			{"del a b" + c + "c d", word || blank, 1},
		}
		for _, w := range where {
			_, line, errno := checkWords(t, w.script)
			switch {
			case w.well && (line != 0 || errno != api.OK):
				t.Errorf("Run(%q): line %d, %d", w.script, line, errno)
			case !w.well && (line < w.line || errno != api.ErrLabLine || c != "\n" && line != w.line):
				t.Errorf("Run(%q): line %d, %d, want line %d refused", w.script, line, errno, w.line)
			}
		}
	}
}

func TestLinesThatSayNothing(t *testing.T) {
	for _, script := range []string{"", "\n", "\n\n\n", " ", "  \n   \n ", "#", "##", "# ", " # a", "#a", "   #   a   b   ", "#\n#\n", "# used", "#used", "# %", "# %zz", "# ~!", strings.Repeat("\n", 20000), strings.Repeat(" ", 20000), strings.Repeat("#", 20000)} {
		answered(t, script, "")
	}
	answered(t, "\n\nused\n\n  \n# x\n   used   \n#", "used 0\nused 0\n")
	answered(t, "used", "used 0\n")
	answered(t, "used\n", "used 0\n")
	answered(t, "used\n\n", "used 0\n")
	answered(t, "\nused", "used 0\n")
	refused(t, "used # a", 1) // only a first word makes a comment
	refused(t, "get a #", 1)
	refused(t, "used#", 1)
	answered(t, "get #", "none\n")
	answered(t, "del a # b", "none\n")
	session(t, "a name that begins with #", "lay #a #", "ok", "read #a", "= #", "files", "files #a 1")
}

// A comment with a byte that may not stand is no comment.
func TestACommentThatMayNotBe(t *testing.T) {
	for _, c := range []string{"\x00", "\t", "\r", "\x1f", "\x7f", "\x80", "\xff", "\u00e9", "\u2028", "\u00a0"} {
		refused(t, "#"+c, 1)
		refused(t, "used\n  # all is well "+c, 2)
		refused(t, "used\n"+c+"# all is well", 2)
		refused(t, "used\n "+c+" \nused", 2)
		refused(t, "used\r\nused", 1)
	}
}

func TestBlanks(t *testing.T) {
	for _, word := range words() {
		l := strings.Split(fine[word][0], " ")
		want := fine[word][1] + "\n"
		for _, between := range []string{" ", "  ", "     ", strings.Repeat(" ", 300)} {
			answered(t, strings.Join(l, between), want)
			answered(t, between+strings.Join(l, " "), want)
			answered(t, strings.Join(l, " ")+between, want)
			answered(t, between+strings.Join(l, between)+between+"\n"+between, want)
		}
		if len(l) > 1 {
			refused(t, strings.Join(l, ""), 1)
			refused(t, strings.Join(l, "\t"), 1)
			refused(t, strings.Join(l, "\n"), 1)
		}
	}
}

// The first line that may not be is told, whatever stands ahead of it and behind.
func TestTheFirstBadLine(t *testing.T) {
	for n := range 60 {
		ahead := strings.Repeat("used\n", n)
		refused(t, ahead+"what", n+1)
		refused(t, ahead+"what\n", n+1)
		refused(t, ahead+"what\nused", n+1)
		refused(t, ahead+"get\nwhat\n\x00", n+1)
		refused(t, strings.Repeat("\n", n)+"get\nwhat", n+1)
		refused(t, strings.Repeat("# put\n \n", n)+"put\nput a\nput a b", 2*n+1)
		refused(t, "open deep 64 0\nput a 1\n"+ahead+"disk\n"+ahead+"open", n+3)
	}
	refused(t, strings.Repeat("\n", 19999)+"x", 20000)
	refused(t, strings.Repeat("\n", 19998)+"x\n", 19999)
	refused(t, "x"+strings.Repeat("\n", 19999), 1)
	refused(t, "\n\n\n \x00\n", 4)
}

func TestLongScripts(t *testing.T) {
	used := strings.Repeat("used\n", 3999) // 19995 bytes
	for _, behind := range []string{"", "#", "####", "    ", "used", "used\n", " used"[1:] + " "} {
		if script := used + behind; len(script) <= 20000 {
			want := used
			if strings.Contains(behind, "used") {
				want += "used\n"
			}
			answered(t, script, strings.ReplaceAll(want, "used", "used 0"))
		}
	}
	for size, want := range map[int]api.Errno{0: api.OK, 1: api.OK, 19999: api.OK, 20000: api.OK, 20001: api.ErrLabLong, 20002: api.ErrLabLong, 40000: api.ErrLabLong, 1 << 20: api.ErrLabLong} {
		for _, fill := range []string{" ", "\n", "#", " \n"} {
			script := strings.Repeat(fill, size)[:size]
			if answers, line, errno := checkWords(t, script); answers != "" || line != 0 || errno != want {
				t.Errorf("Run of %d times %q = %q, %d, %d", size, fill, answers, line, errno)
			}
		}
		for _, fill := range []string{"x", "\x00", "used", "what\n", "\xff"} { // too long, before it is looked at
			script := strings.Repeat(fill, size)[:size]
			if answers, line, errno := lab.Run(script); want == api.ErrLabLong && (answers != "" || line != 0 || errno != want) {
				t.Errorf("Run of %d times %q = %q, %d, %d", size, fill, answers, line, errno)
			}
			checkWords(t, script)
		}
	}
	word := strings.Repeat("%a7", 6662) // a text as long as can be
	answered(t, "lay a "+word+"\nused", "ok\nused 6662\n")
	answered(t, "lay a "+strings.Repeat("a", 19989)+"\nused", "ok\nused 19989\n")
}
