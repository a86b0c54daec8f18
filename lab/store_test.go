package lab_test

import (
	"fmt"
	"strings"
	"testing"
)

var (
	key64, key65     = strings.Repeat("k", 64), strings.Repeat("k", 65)
	value48, value49 = strings.Repeat("v", 2048), strings.Repeat("v", 2049)
)

// asked are all commands of the store, each once.
var asked = []string{"put a 1", "get a", "sync", "merge", "close", "keys", "all", "last", "del a"}

func TestNone(t *testing.T) {
	for _, command := range asked {
		session(t, "at first", command, "none", command, "none")
		for _, forgets := range [][]string{
			{"disk 5", "ok"}, {"open deep 63 0", "error 150"}, {"open fast 64 1001", "error 150"}, {"crash 0", "ok"}, {"lay a b", "ok"}, {"lay x -", "ok"}, {"flip x 0 00", "ok"}, {"flip x 0 01", "ok"},
			{"cut x 1", "ok"}, {"cut x 0", "ok"}, {"lose x", "ok"}, {"copy x y", "ok"}, {"copy x x", "ok"}, {"move x y", "ok"}, {"move x x", "ok"},
		} {
			session(t, "forgotten", "lay x y", "ok", "open deep 64 0", "ok 0 0 0 0", "put b 2", "ok", forgets[0], forgets[1], command, "none")
			session(t, "forgotten, though it was closed", "lay x y", "ok", "open deep 64 0", "ok 0 0 0 0", "close", "ok", forgets[0], forgets[1], command, "none")
			session(t, "none is left", "lay x y", "ok", forgets[0], forgets[1], command, "none")
		}
	}
}

// What tells nothing of the store, and what is refused, leaves it as it is.
func TestNotForgotten(t *testing.T) {
	for _, leaves := range [][]string{
		{"disk 4194305", "error 70"}, {"fail 1", "ok"}, {"fail 0", "ok"}, {"break 1 before", "ok"}, {"break 0 behind", "ok"}, {"files", "files seg-00000001.log 14 x 1"}, {"read x", "= y"}, {"read z", "error 71"}, {"used", "used 15"},
		{"lay - b", "error 70"}, {"lay " + name61 + " b", "error 70"}, {"lay b " + strings.Repeat("b", 86), "error 73"}, {"flip z 0 01", "error 71"}, {"flip x 1 01", "error 70"}, {"cut x 2", "error 70"}, {"cut z 0", "error 71"},
		{"lose z", "error 71"}, {"copy z x", "error 71"}, {"copy z z", "error 71"}, {"copy x -", "error 70"}, {"copy x " + name61, "error 70"}, {"move z x", "error 71"}, {"move z z", "error 71"}, {"move x -", "error 70"}, {"move x " + name61, "error 70"},
	} {
		session(t, "not forgotten", "disk 100", "ok", "lay x y", "ok", "open deep 64 0", "ok 0 0 0 0", "put b 2", "ok", leaves[0], leaves[1], "keys", "keys b", "last", "last 1")
	}
}

func TestOpen(t *testing.T) {
	session(t, "what may be", "open deep 64 0", "ok 0 0 0 0", "open fast 64 0", "ok 0 0 0 0", "open deep 1048576 1000", "ok 0 0 0 0", "open fast 1048576 1000", "ok 0 0 0 0")
	for _, c := range []string{"0 0", "63 0", "1048577 0", "999999999 0", "64 1001", "64 999999999", "63 1001"} {
		session(t, "a configuration that may not be", "open deep "+c, "error 150", "open fast "+c, "error 150", "open deep 64 0", "ok 0 0 0 0", "put a 1", "ok", "open deep "+c, "error 150", "get a", "none", "used", "used 14")
	}
	session(t, "the limit is the first number", "open deep 64 0", "ok 0 0 0 0", "put a "+strings.Repeat("v", 60), "ok", "put b 1", "ok", "files", "files seg-00000001.log 73 seg-00000002.log 14")
	session(t, "a segment goes on to its limit", "open deep 87 0", "ok 0 0 0 0", "put a "+strings.Repeat("v", 60), "ok", "put b 1", "ok", "files", "files seg-00000001.log 87")
	session(t, "every so many records are synced: the second number", "open deep 1000 2", "ok 0 0 0 0", "put a 1", "ok", "crash 0", "ok", "used", "used 0", "open fast 1000 2", "ok 0 0 0 0", "put a 1", "ok", "put b 2", "ok", "put c 3", "ok", "crash 0", "ok", "open deep 64 0", "ok 2 2 2 0")
	session(t, "every one", "open deep 1000 1", "ok 0 0 0 0", "put a 1", "ok", "crash 0", "ok", "open deep 64 0", "ok 1 1 1 0")

	// what is told: the keys that have values, the greatest number, frames and junk
	segment := wordFor(laid(put(7, "a", "1"), put(3, "b", "2"), gone(900, "a")) + "four")
	session(t, "deep", "lay "+seg1+" "+segment, "ok", "lay "+seg2+" "+wordFor(laid(put(5, "c", "3"), put(6, "d", "4"))), "ok", "open deep 64 0", "ok 3 900 5 4", "keys", "keys b c d", "last", "last 900", "open deep 64 0", "ok 3 900 5 0")
	session(t, "fast: of what is believed no frames are told", "lay "+seg1+" "+segment, "ok", "open fast 64 0", "ok 1 900 3 4", "open fast 64 0", "ok 1 900 0 0", "open deep 64 0", "ok 1 900 3 0", "last", "last 900")

	// a lie that deep finds out, and fast, since it looks up what counts
	session(t, "a lie", "lay "+seg1+" "+wordFor(laid(put(1, "a", "1"))), "ok", "lay "+hint1+" "+wordFor(lieAbout(put(1, "a", "1"), "b")), "ok", "open fast 64 0", "ok 1 1 1 0", "keys", "keys a")
}

func TestOpenThatTellsAnError(t *testing.T) {
	lay := "lay " + seg1 + " junk"
	for _, how := range []string{"deep", "fast"} {
		open := "open " + how + " 64 0"
		session(t, "an act fails", lay, "ok", "fail 1", "ok", open, "error 74", "get a", "none", "files", "files seg-00000001.log 4", open, "ok 0 0 0 4")
		session(t, "an act breaks off", lay, "ok", "break 2 behind", "ok", open, "error 75", "get a", "none", "files", "files bad-00000001.bin.tmp 4 seg-00000001.log 4", open, "error 75", "crash 0", "ok", open, "ok 0 0 0 4", "keys", "keys")
		session(t, "a disk that is down", "open deep 64 0", "ok 0 0 0 0", "break 1 before", "ok", "put a 1", "error 75", "keys", "keys", open, "error 75", "keys", "none")
		session(t, "there is no room", "disk 17", "ok", lay, "ok", open, "error 111", "keys", "none", "files", "files seg-00000001.log 4", "disk 18", "ok", lay, "ok", open, "ok 0 0 0 4")
		session(t, "names that are taken", lay, "ok", "lay bad-ffffffff.bin x", "ok", "lay bad-00000001.bin x", "ok", open, "ok 0 0 0 4", "files", "files bad-00000001.bin 1 bad-00000002.bin 4 bad-ffffffff.bin 1 seg-00000001.hint 14 seg-00000001.log 0")
		session(t, "a store that was open is forgotten", open, "ok 0 0 0 0", "put a 1", "ok", "fail 1", "ok", open, "error 74", "get a", "none", open, "ok 1 1 1 0", "get a", "= 1")
	}
}

// A store that was open is forgotten as it is, and not closed: what it has written does not last by that.
func TestForgottenIsNotClosed(t *testing.T) {
	session(t, "by open that tells an error", "open deep 1000 0", "ok 0 0 0 0", "put a 1", "ok", "open deep 1 0", "error 150", "crash 0", "ok", "open deep 64 0", "ok 0 0 0 0")
	session(t, "closed, it lasts", "open deep 1000 0", "ok 0 0 0 0", "put a 1", "ok", "close", "ok", "crash 0", "ok", "open deep 64 0", "ok 1 1 1 0")
	session(t, "by crash", "open deep 1000 0", "ok 0 0 0 0", "put a 1", "ok", "crash 0", "ok", "open deep 64 0", "ok 0 0 0 0")
	session(t, "nothing is asked of the disk for it", "open deep 1000 0", "ok 0 0 0 0", "put a 1", "ok", "fail 1", "ok", "open deep 63 0", "error 150", "lay x -", "ok", "open deep 64 0", "ok 1 1 1 0")
}

func TestPut(t *testing.T) {
	session(t, "put and put again", "open deep 64 0", "ok 0 0 0 0", "put a 1", "ok", "put a 2", "ok", "get a", "= 2", "put a -", "ok", "get a", "= -", "last", "last 3", "put b 1", "ok", "keys", "keys a b")
	session(t, "what may not be", "open deep 64 0", "ok 0 0 0 0", "put - 1", "error 151", "put "+key65+" 1", "error 151", "put "+key64+" 1", "ok", "put - "+value49, "error 151", "last", "last 1", "keys", "keys "+key64)
	session(t, "values", "open deep 64 0", "ok 0 0 0 0", "put a "+value49, "error 152", "put a "+value48, "ok", "get a", "= "+value48, "last", "last 1")
	session(t, "a text's length is that of what it says", "open deep 64 0", "ok 0 0 0 0", "put "+strings.Repeat("%00", 64)+" "+strings.Repeat("%61", 2048), "ok", "put "+strings.Repeat("%00", 65)+" 1", "error 151", "put a "+strings.Repeat("%61", 2049), "error 152", "get "+strings.Repeat("%00", 64), "= "+strings.Repeat("a", 2048))
	session(t, "closed", "open deep 64 0", "ok 0 0 0 0", "close", "ok", "put a 1", "error 153", "put - 1", "error 153", "put a "+value49, "error 153")
	session(t, "spent", "lay "+seg1+" "+wordFor(laid(put(spent-1, "a", "1"))), "ok", "open deep 64 0", "ok 1 18446744073709551614 1 0", "put a 2", "ok", "put a 3", "error 154", "get a", "= 2", "last", "last 18446744073709551615")
	session(t, "no room", "disk 14", "ok", "open deep 64 0", "ok 0 0 0 0", "put a 12", "error 73", "put a 1", "ok", "put a 1", "error 73", "get a", "= 1", "last", "last 1")
	session(t, "an act fails", "open deep 64 0", "ok 0 0 0 0", "put a 1", "ok", "fail 1", "ok", "put a 2", "error 74", "put a 3", "error 155", "put - 3", "error 151", "put a "+value49, "error 152", "get a", "= 1", "last", "last 1")
	session(t, "an act breaks off", "open deep 64 0", "ok 0 0 0 0", "put a 1", "ok", "break 1 behind", "ok", "put a 2", "error 75", "put a 3", "error 155", "get a", "error 75", "keys", "keys a", "crash 27", "ok", "open deep 64 0", "ok 1 1 1 13", "get a", "= 1", "put a 2", "ok", "break 1 behind", "ok", "put a 3", "error 75", "crash 28", "ok", "open deep 64 0", "ok 1 3 3 0", "get a", "= 3")
}

func TestGet(t *testing.T) {
	session(t, "a value, and none", "open deep 64 0", "ok 0 0 0 0", "get a", "nothing", "put a 1", "ok", "get a", "= 1", "get b", "nothing", "get %61", "= 1", "del a", "ok", "get a", "nothing")
	session(t, "a value that reads like an answer", "open deep 64 0", "ok 0 0 0 0", "put a nothing", "ok", "get a", "= nothing", "put a =", "ok", "get a", "= =", "put a error%2071", "ok", "get a", "= error%2071", "put a %0a", "ok", "get a", "= %0a")
	session(t, "what may not be", "open deep 64 0", "ok 0 0 0 0", "get -", "error 151", "get "+key65, "error 151", "get "+key64, "nothing", "close", "ok", "get -", "error 153", "get a", "error 153")
	session(t, "an act fails, and breaks off", "open deep 64 0", "ok 0 0 0 0", "put a 1", "ok", "fail 1", "ok", "get b", "nothing", "get a", "error 74", "get a", "= 1", "put b 2", "ok", "break 1 behind", "ok", "get b", "error 75", "get a", "error 75", "get c", "nothing", "crash 0", "ok", "get a", "none")
}

func TestDel(t *testing.T) {
	session(t, "one and many", "open deep 1000 0", "ok 0 0 0 0", "put a 1", "ok", "put b 2", "ok", "put c 3", "ok", "put - 4", "error 151", "del b", "ok", "keys", "keys a c", "last", "last 4", "del b", "ok", "last", "last 4", "del c x a c a", "ok", "keys", "keys", "last", "last 6", "all", "all")
	session(t, "in the order in which they come", "open deep 1000 0", "ok 0 0 0 0", "put a 1", "ok", "put b 2", "ok", "put c 3", "ok", "fail 3", "ok", "del c b a", "error 74", "keys", "keys a", "last", "last 5", "del a", "error 155", "get a", "= 1")
	session(t, "what may not be", "open deep 1000 0", "ok 0 0 0 0", "put a 1", "ok", "del -", "error 151", "del a -", "error 151", "del a "+key65, "error 151", "del "+key64, "ok", "keys", "keys a", "close", "ok", "del a", "error 153", "del -", "error 153")
	session(t, "no room", "disk 20", "ok", "open deep 1000 0", "ok 0 0 0 0", "put a 1", "ok", "del a", "error 73", "del b", "ok", "get a", "= 1")
	session(t, "an act breaks off", "open deep 1000 0", "ok 0 0 0 0", "put a 1", "ok", "break 1 before", "ok", "del b", "ok", "del a", "error 75", "del a", "error 155", "del b", "error 155", "keys", "keys a")
	session(t, "spent", "lay "+seg1+" "+wordFor(laid(put(spent, "a", "1"), put(1, "b", "2"))), "ok", "open deep 64 0", "ok 2 18446744073709551615 2 0", "del a", "error 154", "del c", "ok", "keys", "keys a b")
	session(t, "fewer numbers are left than needed", "lay "+seg1+" "+wordFor(laid(put(spent-1, "a", "1"), put(1, "b", "2"))), "ok", "open deep 64 0", "ok 2 18446744073709551614 2 0", "del a b", "error 154", "del a a c", "ok", "keys", "keys b", "last", "last 18446744073709551615")
}

func TestSync(t *testing.T) {
	session(t, "what was answered lasts", "open deep 1000 0", "ok 0 0 0 0", "sync", "ok", "put a 1", "ok", "put b 2", "ok", "sync", "ok", "put c 3", "ok", "crash 0", "ok", "open deep 64 0", "ok 2 2 2 0")
	session(t, "closed", "open deep 1000 0", "ok 0 0 0 0", "close", "ok", "sync", "error 153")
	session(t, "an act fails", "open deep 1000 0", "ok 0 0 0 0", "put a 1", "ok", "fail 1", "ok", "sync", "error 74", "sync", "error 155")
	session(t, "an act breaks off", "open deep 1000 0", "ok 0 0 0 0", "put a 1", "ok", "break 1 behind", "ok", "sync", "error 75", "sync", "error 155", "crash 0", "ok", "open deep 64 0", "ok 1 1 1 0")
}

func TestMerge(t *testing.T) {
	long := strings.Repeat("v", 60)
	session(t, "few segments of many", "open deep 64 0", "ok 0 0 0 0", "put a "+long, "ok", "put b "+long, "ok", "put a 1", "ok", "del b", "ok", "files", "files seg-00000001.log 73 seg-00000002.log 73 seg-00000003.log 26",
		"merge", "ok", "files", "files seg-00000004.hint 48 seg-00000004.log 26", "all", "all a 1", "last", "last 4", "merge", "ok", "last", "last 4", "put c 2", "ok", "last", "last 5", "all", "all a 1 c 2")
	session(t, "closed", "open deep 64 0", "ok 0 0 0 0", "close", "ok", "merge", "error 153")
	session(t, "an act fails", "open deep 64 0", "ok 0 0 0 0", "put a 1", "ok", "put a 2", "ok", "fail 3", "ok", "merge", "error 74", "merge", "error 155", "get a", "= 2")
	session(t, "an act breaks off", "open deep 64 0", "ok 0 0 0 0", "put a 1", "ok", "put a 2", "ok", "break 3 before", "ok", "merge", "error 75", "merge", "error 155", "get a", "error 75", "keys", "keys a", "crash 0", "ok", "open deep 64 0", "ok 1 2 2 0")
	session(t, "there is no room", "disk 40", "ok", "open deep 64 0", "ok 0 0 0 0", "put a 1", "ok", "put a 2", "ok", "merge", "error 111", "get a", "= 2", "used", "used 28")
}

func TestClose(t *testing.T) {
	session(t, "once", "open deep 1000 0", "ok 0 0 0 0", "put a 1", "ok", "close", "ok", "close", "error 153", "keys", "keys", "all", "all", "last", "last 1", "crash 0", "ok", "open deep 64 0", "ok 1 1 1 0")
	session(t, "an act fails", "open deep 1000 0", "ok 0 0 0 0", "put a 1", "ok", "fail 1", "ok", "close", "error 74", "close", "error 153", "get a", "error 153")
	session(t, "an act breaks off", "open deep 1000 0", "ok 0 0 0 0", "put a 1", "ok", "break 1 before", "ok", "close", "error 75", "close", "error 153")
	session(t, "a store that is broken", "open deep 1000 0", "ok 0 0 0 0", "put a 1", "ok", "fail 1", "ok", "put b 1", "error 74", "close", "ok", "close", "error 153")
	session(t, "and opened again", "open deep 1000 0", "ok 0 0 0 0", "put a 1", "ok", "close", "ok", "open fast 1000 0", "ok 1 1 1 0", "put b 2", "ok", "all", "all a 1 b 2")
}

func TestKeysAllLast(t *testing.T) {
	script := []string{"open deep 1000 0", "ok 0 0 0 0", "keys", "keys", "all", "all", "last", "last 0"}
	for i, key := range []string{"b", "a", "%00", "%ff", "aa", "--", "%2d", "A", "%25", "~", "!", "%20", "a%20b"} {
		script = append(script, "put "+key+" v"+key, "ok", "last", fmt.Sprintf("last %d", i+1))
	}
	script = append(script, "keys", "keys %00 %20 ! %25 %2d -- A a a%20b aa b ~ %ff",
		"all", "all %00 v%00 %20 v%20 ! v! %25 v%25 %2d v- -- v-- A vA a va a%20b va%20b aa vaa b vb ~ v~ %ff v%ff",
		"put a -", "ok", "del -- %25", "ok", "all", "all %00 v%00 %20 v%20 ! v! %2d v- A vA a - a%20b va%20b aa vaa b vb ~ v~ %ff v%ff", "last", "last 16")
	session(t, "in order", script...)
	session(t, "what cannot be read is left out of all", "open deep 64 0", "ok 0 0 0 0", "put a 1", "ok", "put b 2", "ok", "put c 3", "ok", "fail 2", "ok", "all", "all a 1 c 3", "all", "all a 1 b 2 c 3", "break 2 behind", "ok", "all", "all a 1", "all", "all", "keys", "keys a b c", "last", "last 3")
	session(t, "great numbers", "lay "+seg1+" "+wordFor(laid(put(1<<63+5, "a", "1"))), "ok", "open deep 64 0", "ok 1 9223372036854775813 1 0", "put a 1", "ok", "last", "last 9223372036854775814")
}
