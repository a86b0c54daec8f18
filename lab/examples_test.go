package lab_test

import (
	"testing"

	"salvor/api"
	"salvor/lab"
)

func TestExample1(t *testing.T) {
	session(t, "what was synced lasts",
		"open deep 1000 0", "ok 0 0 0 0",
		"put a 1", "ok",
		"sync", "ok",
		"put b %00", "ok",
		"crash 0", "ok",
		"open deep 1000 0", "ok 1 1 1 0",
		"all", "all a 1")
}

func TestExample2(t *testing.T) {
	session(t, "junk is laid aside",
		"lay seg-00000001.log junk", "ok",
		"open fast 64 1", "ok 0 0 0 4",
		"files", "files bad-00000001.bin 4 seg-00000001.hint 14 seg-00000001.log 0")
}

func TestExample3(t *testing.T) {
	if answers, line, errno := lab.Run("get"); answers != "" || line != 1 || errno != api.ErrLabLine {
		t.Errorf("Run(get) = %q, %d, %d", answers, line, errno)
	}
	session(t, "no store", "get a", "none")
	session(t, "no file", "flip x 0 01", "error 71")
}

// Of DOC.md's examples those that a script can tell.
func TestExamplesOfTheWhole(t *testing.T) {
	one, two := laid(put(1, "a", "x")), laid(put(2, "b", "y"))
	session(t, "example 4: junk between two frames",
		"lay "+seg1+" "+wordFor(one+"???"+two), "ok",
		"open deep 64 0", "ok 2 2 2 3",
		"read "+bad1, "= ???",
		"read "+seg1, "= "+wordFor(one+two),
		"read "+hint1, "= "+wordFor(rightFor(put(1, "a", "x"), put(2, "b", "y"))))
	session(t, "example 5: half a frame",
		"lay "+seg1+" "+wordFor(one+two[:7]), "ok",
		"open deep 64 0", "ok 1 1 1 7",
		"read "+bad1, "= "+wordFor(two[:7]),
		"read "+seg1, "= "+wordFor(one))
	session(t, "example 6: one record twice; a Delete that counts",
		"lay "+seg1+" "+wordFor(one), "ok",
		"copy "+seg1+" "+seg2, "ok",
		"open deep 64 0", "ok 1 1 2 0",
		"lay "+seg2+" "+wordFor(laid(gone(5, "a"))), "ok",
		"lay "+seg1+" "+wordFor(laid(put(4, "a", "x"))), "ok",
		"open deep 64 0", "ok 0 5 2 0",
		"move "+seg1+" "+seg3, "ok",
		"open fast 64 0", "ok 0 5 1 0") // one of them is looked into, the other one believed
	session(t, "example 7: a hint file that is forged",
		"lay "+seg1+" "+wordFor(one), "ok",
		"lay "+hint1+" "+wordFor(lieAbout(put(1, "a", "x"), "z")), "ok",
		"open fast 64 0", "ok 1 1 1 0",
		"all", "all a x")
	session(t, "example 8: a number is used again",
		"open deep 1000 0", "ok 0 0 0 0",
		"put a 1", "ok",
		"sync", "ok",
		"put b 2", "ok",
		"last", "last 2",
		"crash 0", "ok",
		"open deep 1000 0", "ok 1 1 1 0",
		"get a", "= 1",
		"get b", "nothing",
		"put b 3", "ok",
		"last", "last 2")
	session(t, "example 9: no number is left",
		"lay "+seg1+" "+wordFor(laid(put(spent, "a", "x"))), "ok",
		"open deep 64 0", "ok 1 18446744073709551615 1 0",
		"get a", "= x",
		"put a 1", "error 154",
		"last", "last 18446744073709551615")
}
