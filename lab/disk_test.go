package lab_test

import (
	"fmt"
	"slices"
	"strings"
	"testing"

	"salvor/api"
)

var name60, name61 = strings.Repeat("n", 60), strings.Repeat("n", 61)

// What there is at first: an empty disk with all the capacity that there may be, up and not armed, and no store.
func TestAtFirst(t *testing.T) {
	session(t, "no files, no store", "used", "used 0", "files", "files", "keys", "none", "read a", "error 71", "lay a b", "ok")
	session(t, "not armed", "open deep 64 1", "ok 0 0 0 0", "put a b", "ok")
}

// filling is a script that fills a disk but for some hundred bytes, and how many these are. A script's own texts cannot be so long: one file is copied to as many segments as there may be, and a salvage gives each its hint file.
func filling() (string, int) {
	const segments = 199
	var records []api.Record
	left := func(keys ...int) int {
		l := slices.Clone(records)
		for i, n := range keys {
			l = append(l, put(1, strings.Repeat("kl"[i:i+1], n), ""))
		}
		return api.MaxDisk - segments*(len(laid(l...))+len(rightFor(l...))) - len(laid(l...))
	}
	for left(64, 64) > 0 {
		records = append(records, put(1, fmt.Sprintf("%064d", len(records)), ""))
	}
	keys := 128 // both together
	for left(keys-keys/2, keys/2) < 100 {
		keys--
	}
	records = append(records, put(1, strings.Repeat("k", keys-keys/2), ""), put(1, strings.Repeat("l", keys/2), ""))
	script := "lay x " + wordFor(laid(records...)) + "\n"
	for n := range segments {
		script += fmt.Sprintf("copy x seg-%08x.log\n", n+1)
	}
	return script, left()
}

func TestTheGreatestCapacity(t *testing.T) {
	t.Parallel()
	script, left := filling()
	value := strings.Repeat("v", left-len(laid(put(2, "a", ""))))
	for _, ahead := range []string{"", "disk 4194305\n", "disk 5\nlay a -\ndisk 4194304\n"} {
		got, _, _ := checkWords(t, ahead+script+"open deep 1048576 0\nput a "+value+"v\nput a "+value+"\nused\nput a -\nlose x\nget a")
		want := fmt.Sprintf("error 73\nok\nused 4194304\nerror 73\nerror 70\n= %s\n", value)
		if !strings.HasSuffix(got, want) {
			t.Errorf("%q: %s, want %s at its end", ahead, short(got), short(want))
		}
	}
}

func TestDisk(t *testing.T) {
	session(t, "capacities that vdisk.New takes",
		"disk 0", "ok", "lay a -", "ok", "lay b x", "error 73", "files", "files a 0",
		"disk 1", "ok", "files", "files", "lay b x", "ok", "lay c x", "error 73", "lay c -", "ok",
		"disk 4194304", "ok", "used", "used 0", "lay b xx", "ok")
	session(t, "capacities that it refuses: nothing is changed",
		"disk 3", "ok", "lay a xyz", "ok", "open deep 64 0", "ok 0 0 0 0", "disk 4194305", "error 70", "disk 999999999", "error 70",
		"keys", "keys", "files", "files a 3", "lay b x", "error 73", "keys", "keys", "fail 1", "ok", "disk 4194305", "error 70", "put a b", "error 74")
	session(t, "what was armed stays, when it is refused",
		"open deep 64 0", "ok 0 0 0 0", "fail 1", "ok", "disk 4194305", "error 70", "put a b", "error 74", "keys", "keys", "put a b", "error 155")
	session(t, "a new one has nothing of the old one",
		"lay a x", "ok", "open deep 64 0", "ok 0 0 0 0", "put a b", "ok", "fail 1", "ok", "break 2 behind", "ok", "disk 100", "ok",
		"keys", "none", "files", "files", "open deep 64 1", "ok 0 0 0 0", "put a b", "ok", "sync", "ok", "last", "last 1")
	session(t, "down, and a new one", "open deep 64 0", "ok 0 0 0 0", "break 1 before", "ok", "put a b", "error 75", "disk 100", "ok", "open deep 64 0", "ok 0 0 0 0", "put a b", "ok")
	session(t, "a store that is closed, too", "open deep 64 0", "ok 0 0 0 0", "close", "ok", "disk 4194305", "error 70", "get a", "error 153", "disk 1", "ok", "get a", "none")
}

func TestFailAndBreak(t *testing.T) {
	session(t, "the act that is said fails",
		"open deep 1000 0", "ok 0 0 0 0", "put a 1", "ok", "fail 2", "ok", "put b 2", "ok", "get a", "error 74", "get a", "= 1", "fail 1", "ok", "fail 0", "ok", "get b", "= 2",
		"fail 1", "ok", "sync", "error 74", "sync", "error 155", "get a", "= 1", "fail 999999999", "ok", "get a", "= 1")
	session(t, "breaks off before", "open deep 1000 0", "ok 0 0 0 0", "put a 1", "ok", "break 2 before", "ok", "put a 2", "ok", "put a 3", "error 75", "get a", "error 75",
		"used", "used 28", "fail 1", "ok", "crash 999999999", "ok", "open deep 64 0", "ok 1 2 2 0", "get a", "= 2")
	session(t, "breaks off behind", "open deep 1000 0", "ok 0 0 0 0", "put a 1", "ok", "break 2 behind", "ok", "put a 2", "ok", "put a 3", "error 75", "get a", "error 75",
		"used", "used 42", "crash 999999999", "ok", "open deep 64 0", "ok 1 3 3 0", "get a", "= 3")
	session(t, "the later call takes the place of the earlier one", "open deep 1000 0", "ok 0 0 0 0", "put a 1", "ok", "break 1 before", "ok", "break 2 behind", "ok", "put b 1", "ok", "break 0 before", "ok", "put c 1", "ok", "all", "all a 1 b 1 c 1")
	session(t, "it breaks off, and does not fail", "open deep 1000 0", "ok 0 0 0 0", "put a 1", "ok", "fail 1", "ok", "break 1 before", "ok", "sync", "error 75")
	session(t, "also without a store", "fail 0", "ok", "fail 1", "ok", "break 0 before", "ok", "break 1 behind", "ok", "open fast 64 0", "ok 0 0 0 0", "put a 1", "error 75", "break 1 before", "ok", "fail 1", "ok")
	session(t, "the store is not forgotten", "open deep 64 0", "ok 0 0 0 0", "fail 3", "ok", "keys", "keys", "break 7 behind", "ok", "last", "last 0", "close", "ok", "fail 1", "ok", "last", "last 0")
}

// each of a disk's acts stands behind what it does
func TestWhatTellsIsNoAct(t *testing.T) {
	session(t, "files, read, used, and what is refused", "open deep 1000 0", "ok 0 0 0 0", "put a 1", "ok", "fail 1", "ok",
		"files", "files seg-00000001.log 14", "read "+seg1, "= "+wordFor(laid(put(1, "a", "1"))), "read x", "error 71", "used", "used 14", "keys", "keys a", "last", "last 1", "get b", "nothing", "del b", "ok", "lose x", "error 71", "flip x 0 01", "error 71", "cut "+seg1+" 15", "error 70", "get a", "error 74")
}

func TestCrash(t *testing.T) {
	one := wordFor(laid(put(1, "a", "1")))
	for n := range 16 {
		script := fmt.Sprintf("open deep 1000 0\nput a 1\ncrash %d\nkeys\nused\nread %s", n, seg1)
		want := fmt.Sprintf("ok 0 0 0 0\nok\nok\nnone\nused %d\n= %s\n", min(n, 14), wordFor(laid(put(1, "a", "1"))[:min(n, 14)]))
		answered(t, script, want)
	}
	session(t, "what was synced lasts", "open deep 1000 0", "ok 0 0 0 0", "put a 1", "ok", "sync", "ok", "put a 2", "ok", "crash 3", "ok", "used", "used 17", "crash 0", "ok", "used", "used 17", "open deep 64 0", "ok 1 1 1 3", "read "+seg1, "= "+one)
	session(t, "what is laid lasts", "lay a xyz", "ok", "crash 0", "ok", "read a", "= xyz", "flip a 0 01", "ok", "crash 0", "ok", "read a", "= yyz")
	session(t, "what the store wrote lasts behind any damage", "open deep 1000 0", "ok 0 0 0 0", "put a 1", "ok", "lay x -", "ok", "crash 0", "ok", "read "+seg1, "= "+one)
	session(t, "not behind damage that is refused", "open deep 1000 0", "ok 0 0 0 0", "put a 1", "ok", "lose x", "error 71", "lay - -", "error 70", "crash 0", "ok", "read "+seg1, "= -")
	session(t, "the disk is up, and armed no more", "open deep 64 0", "ok 0 0 0 0", "break 1 before", "ok", "put a 1", "error 75", "fail 1", "ok", "break 1 before", "ok", "crash 0", "ok", "open deep 64 0", "ok 0 0 0 0", "put a 1", "ok", "sync", "ok")
	session(t, "of a disk that is not armed, without a store", "crash 0", "ok", "crash 1", "ok", "get a", "none", "open deep 64 0", "ok 0 0 0 0", "close", "ok", "get a", "error 153", "crash 5", "ok", "get a", "none")
	session(t, "the capacity stays", "disk 3", "ok", "crash 0", "ok", "lay a xyzw", "error 73", "lay a xyz", "ok")
}

func TestFiles(t *testing.T) {
	session(t, "by names, byte by byte", "lay b 1", "ok", "lay a 22", "ok", "lay %ff 333", "ok", "lay %00 -", "ok", "lay aa 4", "ok", "lay A 5", "ok", "lay a%20b 6", "ok", "lay %2d 7", "ok", "lay -- 8", "ok",
		"files", "files %00 0 %2d 1 -- 1 A 1 a 2 a%20b 1 aa 1 b 1 %ff 3", "used", "used 11")
	session(t, "on a disk that is down", "lay x abc", "ok", "open deep 1000 0", "ok 0 0 0 0", "put a 1", "ok", "break 1 behind", "ok", "put b 1", "error 75",
		"files", "files seg-00000001.log 28 x 3", "read x", "= abc", "read y", "error 71", "read "+seg1, "= "+wordFor(laid(put(1, "a", "1"), put(2, "b", "1"))), "used", "used 31", "get a", "error 75")
	session(t, "names that may not be", "read -", "error 71", "read "+name61, "error 71", "lay "+name60+" x", "ok", "read "+name60, "= x", "files", "files "+name60+" 1")
}
