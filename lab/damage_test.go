package lab_test

import (
	"fmt"
	"strings"
	"testing"
)

func TestLay(t *testing.T) {
	session(t, "a new one, and in the place of one", "lay a xyz", "ok", "lay b -", "ok", "files", "files a 3 b 0", "lay a 12345", "ok", "files", "files a 5 b 0", "read a", "= 12345", "lay a -", "ok", "files", "files a 0 b 0", "lay a a", "ok", "used", "used 1")
	session(t, "names that may not be", "lay x 1", "ok", "lay - x", "error 70", "lay "+name61+" x", "error 70", "lay "+strings.Repeat("%00", 61)+" x", "error 70", "files", "files x 1", "lay "+name60+" x", "ok", "lay "+strings.Repeat("%00", 60)+" xy", "ok", "files", "files "+strings.Repeat("%00", 60)+" 2 "+name60+" 1 x 1")
	session(t, "no room", "disk 5", "ok", "lay a 123456", "error 73", "lay a 12345", "ok", "lay b 1", "error 73", "lay b -", "ok", "lay a 123456", "error 73", "read a", "= 12345", "lay a 1234", "ok", "lay b 1", "ok", "lay a 12345", "error 73", "used", "used 5")
	session(t, "both: the name", "disk 5", "ok", "lay - 123456", "error 70", "lay "+name61+" 123456", "error 70")
	session(t, "in the place of a segment", "open deep 1000 0", "ok 0 0 0 0", "put a 1", "ok", "lay "+seg1+" "+wordFor(laid(put(9, "b", "2"))), "ok", "open deep 64 0", "ok 1 9 1 0", "all", "all b 2")
}

// places are a file's, as far as there are some.
func TestFlip(t *testing.T) {
	for size := range 6 {
		bytes := "abcde"[:size]
		for at := range 8 {
			lay := "lay f " + wordFor(bytes)
			flip := fmt.Sprintf("flip f %d 01", at)
			if at >= size {
				session(t, "no place of it", lay, "ok", flip, "error 70", "read f", "= "+wordFor(bytes))
				continue
			}
			other := []byte(bytes)
			other[at] ^= 1
			session(t, "a place of it", lay, "ok", flip, "ok", "read f", "= "+string(other), flip, "ok", "read f", "= "+bytes)
		}
	}
	session(t, "far beyond", "lay f abc", "ok", "flip f 999999999 01", "error 70", "flip f 3 01", "error 70", "flip f 2 01", "ok", "read f", "= abb", "flip f 4 00", "error 70", "flip f 3 00", "error 70", "flip f 0 00", "ok", "read f", "= abb")
	session(t, "no file", "flip f 0 01", "error 71", "flip f 1 01", "error 71", "flip - 0 01", "error 71", "flip "+name61+" 0 01", "error 71", "lay f a", "ok", "flip F 0 01", "error 71", "flip - 0 01", "error 71", "files", "files f 1")
	session(t, "other files stay", "lay a 11", "ok", "lay b 22", "ok", "lay c 33", "ok", "flip b 1 7f", "ok", "read a", "= 11", "read b", "= 2M", "read c", "= 33", "used", "used 6")
	session(t, "a frame is damaged", "lay "+seg1+" "+wordFor(laid(put(1, "a", "1"), put(2, "b", "2"))), "ok", "flip "+seg1+" 8 ff", "ok", "open deep 64 0", "ok 1 2 1 14", "all", "all b 2")
}

func TestCut(t *testing.T) {
	for size := range 6 {
		bytes := "abcde"[:size]
		for left := range 8 {
			lay := "lay f " + wordFor(bytes)
			cut := fmt.Sprintf("cut f %d", left)
			if left > size {
				session(t, "it has fewer", lay, "ok", cut, "error 70", "read f", "= "+wordFor(bytes))
				continue
			}
			session(t, "it has so many", lay, "ok", cut, "ok", "read f", "= "+wordFor(bytes[:left]), "used", fmt.Sprintf("used %d", left), cut, "ok", "read f", "= "+wordFor(bytes[:left]))
		}
	}
	session(t, "far beyond", "lay f abc", "ok", "cut f 999999999", "error 70", "cut f 4", "error 70", "cut f 3", "ok", "cut f 0", "ok", "cut f 1", "error 70", "cut f 0", "ok", "files", "files f 0")
	session(t, "no file", "cut f 0", "error 71", "cut f 5", "error 71", "cut - 0", "error 71", "lay f a", "ok", "cut g 0", "error 71", "cut g 9", "error 71", "files", "files f 1")
	session(t, "other files stay", "lay a 11", "ok", "lay b 22", "ok", "lay c 33", "ok", "cut b 1", "ok", "read a", "= 11", "read b", "= 2", "read c", "= 33")
	session(t, "a segment", "lay "+seg1+" "+wordFor(laid(put(1, "a", "1"), put(2, "b", "2"))), "ok", "cut "+seg1+" 27", "ok", "open deep 64 0", "ok 1 1 1 13", "all", "all a 1")
}

func TestLose(t *testing.T) {
	session(t, "one by one", "lay a 1", "ok", "lay b 22", "ok", "lay c 333", "ok", "lose b", "ok", "files", "files a 1 c 3", "lose b", "error 71", "lose c", "ok", "lose a", "ok", "files", "files", "lose a", "error 71")
	session(t, "no file", "lose a", "error 71", "lose -", "error 71", "lose "+name61, "error 71", "lay a 1", "ok", "lose A", "error 71", "lose aa", "error 71", "files", "files a 1")
	session(t, "a segment", "open deep 64 0", "ok 0 0 0 0", "put a "+strings.Repeat("v", 60), "ok", "put b 1", "ok", "lose "+seg1, "ok", "open deep 64 0", "ok 1 2 1 0", "all", "all b 1")
}

func TestCopy(t *testing.T) {
	session(t, "a new one, and over one that is there", "lay a 1", "ok", "lay b 22", "ok", "copy a c", "ok", "files", "files a 1 b 2 c 1", "copy b a", "ok", "files", "files a 2 b 2 c 1", "read a", "= 22", "read b", "= 22", "read c", "= 1")
	session(t, "each has bytes of its own", "lay a 11", "ok", "copy a b", "ok", "flip a 0 01", "ok", "read a", "= 01", "read b", "= 11", "cut b 1", "ok", "read a", "= 01", "lose a", "ok", "read b", "= 1")
	session(t, "onto itself", "lay a 1", "ok", "lay b -", "ok", "copy a a", "ok", "copy b b", "ok", "files", "files a 1 b 0", "read a", "= 1")
	session(t, "no file", "copy a b", "error 71", "copy a a", "error 71", "copy - a", "error 71", "copy - -", "error 71", "lay b 1", "ok", "copy a b", "error 71", "copy "+name61+" b", "error 71", "copy a -", "error 71", "read b", "= 1")
	session(t, "names that may not be", "lay a 1", "ok", "copy a -", "error 70", "copy a "+name61, "error 70", "files", "files a 1", "copy a "+name60, "ok", "files", "files a 1 "+name60+" 1")
	session(t, "no room", "disk 5", "ok", "lay a 123", "ok", "copy a b", "error 73", "copy a a", "ok", "copy a -", "error 70", "lay b 45", "ok", "copy a b", "error 73", "copy b a", "ok", "copy a c", "error 73", "files", "files a 2 b 2", "cut a 1", "ok", "copy b c", "ok", "files", "files a 1 b 2 c 2")
	session(t, "a segment", "lay "+seg1+" "+wordFor(laid(put(1, "a", "1"))), "ok", "copy "+seg1+" "+seg2, "ok", "copy "+seg1+" other", "ok", "open deep 64 0", "ok 1 1 2 0", "lose "+seg1, "ok", "open fast 64 0", "ok 1 1 0 0", "all", "all a 1")
}

func TestMove(t *testing.T) {
	session(t, "to a new one, and over one that is there", "lay a 1", "ok", "lay b 22", "ok", "move a c", "ok", "files", "files b 2 c 1", "move b c", "ok", "files", "files c 2", "read c", "= 22", "move b c", "error 71", "move c a", "ok", "files", "files a 2")
	session(t, "onto itself", "lay a 1", "ok", "lay b -", "ok", "move a a", "ok", "move b b", "ok", "files", "files a 1 b 0", "read a", "= 1")
	session(t, "no file", "move a b", "error 71", "move a a", "error 71", "move - a", "error 71", "move - -", "error 71", "lay b 1", "ok", "move a b", "error 71", "move a -", "error 71", "read b", "= 1")
	session(t, "names that may not be", "lay a 1", "ok", "move a -", "error 70", "move a "+name61, "error 70", "files", "files a 1", "move a "+name60, "ok", "files", "files "+name60+" 1")
	session(t, "on a full disk", "disk 3", "ok", "lay a 123", "ok", "move a b", "ok", "move b b", "ok", "lay c -", "ok", "move c b", "ok", "files", "files b 0")
	session(t, "a segment", "lay "+seg1+" "+wordFor(laid(put(1, "a", "1"))), "ok", "open deep 64 0", "ok 1 1 1 0", "move "+seg1+" "+seg2, "ok", "open fast 64 0", "ok 1 1 1 0", "files", "files seg-00000002.hint 33 seg-00000002.log 14")
}

// all kinds of damage that is done to a file x of one byte, and that is refused, as long as there is no z
var (
	done    = []string{"lay x zz", "lay y zz", "flip x 0 01", "flip x 0 00", "cut x 0", "cut x 1", "lose x", "copy x y", "copy x x", "move x y", "move x x"}
	refuses = [][2]string{
		{"lay - z", "error 70"}, {"flip x 1 01", "error 70"}, {"cut x 2", "error 70"}, {"copy x -", "error 70"}, {"move x -", "error 70"},
		{"flip z 0 01", "error 71"}, {"cut z 0", "error 71"}, {"lose z", "error 71"}, {"copy z x", "error 71"}, {"move z x", "error 71"},
	}
)

// The disk is up behind it, whole, and armed no more; what was there lasts.
func TestDamageOfADiskThatIsDown(t *testing.T) {
	for _, damage := range done {
		session(t, damage, "lay x y", "ok", "open deep 1000 0", "ok 0 0 0 0", "put a 1", "ok", "break 1 behind", "ok", "put b 2", "error 75", "get a", "error 75",
			"break 1 before", "ok", "fail 1", "ok", damage, "ok", "keys", "none", "crash 0", "ok", "open deep 64 0", "ok 2 2 2 0", "all", "all a 1 b 2", "put c 3", "ok")
	}
	for _, damage := range refuses {
		session(t, damage[0], "lay x y", "ok", "open deep 1000 0", "ok 0 0 0 0", "put a 1", "ok", "break 1 behind", "ok", "put b 2", "error 75",
			damage[0], damage[1], "get a", "error 75", "keys", "keys a", "files", "files seg-00000001.log 28 x 1", "read x", "= y", "crash 0", "ok", "read "+seg1, "= -", "used", "used 1")
	}
}

func TestDamageOfADiskThatIsArmed(t *testing.T) {
	for arm, errno := range map[string]string{"fail 1": "error 74", "break 1 before": "error 75", "break 1 behind": "error 75"} {
		for _, damage := range done {
			session(t, damage, "lay x y", "ok", arm, "ok", damage, "ok", "open deep 64 0", "ok 0 0 0 0", "put a 1", "ok", "sync", "ok", "get a", "= 1")
		}
		for _, damage := range refuses {
			session(t, damage[0], "lay x y", "ok", "open deep 64 0", "ok 0 0 0 0", arm, "ok", damage[0], damage[1], "keys", "keys", "put a 1", errno)
		}
	}
}

// What is damaged has the same capacity as before.
func TestTheCapacityStays(t *testing.T) {
	for _, damage := range done {
		session(t, damage, "disk 20", "ok", "lay x y", "ok", damage, "ok", "lay x -", "ok", "lay y -", "ok", "lay x 123456789012345678901", "error 73", "lay x 12345678901234567890", "ok", "used", "used 20")
	}
}

// What the store has not synced is seen, and lasts behind any damage.
func TestDamageMakesWhatIsSeenLast(t *testing.T) {
	for _, damage := range done {
		session(t, damage, "lay x y", "ok", "open deep 1000 0", "ok 0 0 0 0", "put a 1", "ok", damage, "ok", "crash 0", "ok", "open deep 64 0", "ok 1 1 1 0", "get a", "= 1")
	}
	for _, damage := range refuses {
		session(t, damage[0], "lay x y", "ok", "open deep 1000 0", "ok 0 0 0 0", "put a 1", "ok", damage[0], damage[1], "put b 2", "ok", "crash 0", "ok", "open deep 64 0", "ok 0 0 0 0")
	}
}

// A store makes more files than vdisk.New takes: damage is refused then, as long as there are not fewer behind it.
func TestMoreFilesThanMayBe(t *testing.T) {
	script := "lay x y\nlay z -\n"
	for n := range 99 {
		script += fmt.Sprintf("lay seg-%08x.log -\n", n+1)
	}
	script += "open deep 64 0\nclose\nopen fast 64 0\n" // 200 files
	for _, l := range [][]string{
		{"flip x 0 01", "ok", "read x", "= x"}, {"lay y -", "error 70", "keys", "keys"}, {"lay x -", "ok", "keys", "none"}, {"copy x z", "ok", "read z", "= y"}, {"copy x y", "error 70", "keys", "keys"}, {"move x y", "ok", "read y", "= y"},
	} {
		got, _, _ := checkWords(t, script+l[0]+"\n"+l[2])
		if !strings.HasSuffix(got, "ok 0 0 0 0\n"+l[1]+"\n"+l[3]+"\n") {
			t.Errorf("of 200 files: %q: %q", l, got)
		}
	}
	script += "put a 1\n" // and one more
	for _, l := range [][]string{
		{"flip x 0 01", "error 70", "read x", "= y"}, {"flip x 1 01", "error 70", "read x", "= y"}, {"flip y 0 01", "error 71", "get a", "= 1"}, {"cut x 0", "error 70", "read x", "= y"}, {"cut y 0", "error 71", "keys", "keys a"},
		{"lay x 1", "error 70", "read x", "= y"}, {"copy x z", "error 70", "read z", "= -"}, {"copy y z", "error 71", "keys", "keys a"}, {"copy x x", "error 70", "get a", "= 1"}, {"move x x", "error 70", "get a", "= 1"}, {"move x y", "error 70", "read x", "= y"},
		{"move x z", "ok", "keys", "none"}, {"lose x", "ok", "get a", "none"}, {"lose y", "error 71", "get a", "= 1"}, {"lose z", "ok", "used", "used 1401"},
	} {
		got, _, _ := checkWords(t, script+l[0]+"\n"+l[2])
		if !strings.HasSuffix(got, "ok 0 0 0 0\nok\n"+l[1]+"\n"+l[3]+"\n") {
			t.Errorf("of 201 files: %q: %q", l, got)
		}
	}
	script += "put b " + strings.Repeat("v", 64) + "\nput c 1\n" // 202 or more
	for _, l := range [][]string{{"lose x", "error 70", "all", "all a 1 b " + strings.Repeat("v", 64) + " c 1"}, {"move x z", "error 70", "read x", "= y"}} {
		got, _, _ := checkWords(t, script+l[0]+"\n"+l[2])
		if !strings.HasSuffix(got, "ok\nok\nok\n"+l[1]+"\n"+l[3]+"\n") {
			t.Errorf("of 202 files: %q: %q", l, got)
		}
	}
}
