package store_test

import (
	"slices"
	"strings"
	"testing"

	"salvor/api"
	"salvor/store"
)

func empty() *store.Store { return &store.Store{} }

// filled is a store of some keys, each with itself as its value.
func filled(t *testing.T, keys ...string) *store.Store {
	t.Helper()
	s := opened(t, diskOf(t, room), plain)
	for _, key := range keys {
		checkError(t, s.Put(key, key), "Put", api.OK)
	}
	return s
}

// Byte by byte in order; a key that another one begins with is ahead of it.
func TestKeysAreInOrder(t *testing.T) {
	in := []string{"\x00", "\x00\x00", " ", "A", "a", "a\x00", "aa", "ab", "b", key64[1:], key64, key64[1:] + "l", "\x7f", "\x80", "\xa6", "\xa7", "\xff", "\xff\x00"}
	slices.Sort(in)
	turned := slices.Clone(in)
	slices.Reverse(turned)
	for _, l := range [][]string{in, turned} {
		s := filled(t, l...)
		want := map[string]string{}
		for _, key := range in {
			want[key] = key
		}
		checkMap(t, s, want)
		checkError(t, s.Delete(l[3], l[7]), "Delete", api.OK)
		delete(want, l[3])
		delete(want, l[7])
		checkMap(t, s, want)
	}
}

// It may be given up early, and ranged over again, also within a range of itself.
func TestAllAgainAndAgain(t *testing.T) {
	s := filled(t, "a", "b", "c", "d")
	all := s.All()
	text := ""
	for one := range all {
		text += one
		for two := range all {
			text += two
			if two == "b" || one == "c" {
				break
			}
		}
		if one == "c" {
			break
		}
	}
	if text != "aab"+"bab"+"ca" {
		t.Errorf("it has told %q", text)
	}
	for range 2 {
		count := 0
		all(func(key, value string) bool {
			count++
			return count < 3
		})
		if count != 3 {
			t.Errorf("it has told of %d keys, and was to stop at 3", count)
		}
	}
}

// The keys are taken when the range begins, not when All is called; what each of them has, when its turn comes.
func TestAllIsAskedOneByOne(t *testing.T) {
	s := filled(t, "b", "d", "f", "h")
	all := s.All()
	checkError(t, s.Put("a", "early"), "Put", api.OK)
	var text []string
	for key, value := range all {
		text = append(text, key+"="+value)
		switch key {
		case "a":
			checkError(t, s.Put("b", "new"), "Put", api.OK)
			checkError(t, s.Put("c", "too late"), "Put", api.OK)
			checkError(t, s.Delete("d"), "Delete", api.OK)
		case "b":
			checkError(t, s.Delete("f"), "Delete", api.OK)
			checkError(t, s.Put("f", "back again"), "Put", api.OK)
			checkError(t, s.Merge(), "Merge", api.OK)
			checkError(t, s.Sync(), "Sync", api.OK)
			checkKeys(t, s, "a", "b", "c", "f", "h")
		case "f":
			checkError(t, s.Put("a", "passed"), "Put", api.OK)
			checkLast(t, s, 11)
			checkGet(t, s, "c", "too late")
		}
	}
	if want := "a=early b=new f=back again h=h"; strings.Join(text, " ") != want {
		t.Errorf("it has told %q, want %q", text, want)
	}
	text = nil
	for key := range all {
		text = append(text, key)
		checkError(t, s.Delete(key), "Delete", api.OK)
	}
	if want := "a b c f h"; strings.Join(text, " ") != want {
		t.Errorf("it has told %q, want %q", text, want)
	}
	for range all {
		t.Errorf("all are deleted")
	}
}

// A store that is closed within a range tells nothing more.
func TestAllOfAStoreThatIsClosedMeanwhile(t *testing.T) {
	s := filled(t, "a", "b", "c")
	all := s.All()
	count := 0
	for range all {
		count++
		checkError(t, s.Close(), "Close", api.OK)
	}
	for range all {
		count++
	}
	if count != 1 {
		t.Errorf("it has told of %d keys", count)
	}
}

// What cannot be read is left out, and what stands behind it told.
func TestAllOfWhatCannotBeRead(t *testing.T) {
	d := diskOf(t, room)
	s := opened(t, d, api.Config{Limit: 64})
	for _, key := range []string{"a", "b", "c", "d"} {
		checkError(t, s.Put(key, strings.Repeat(key, 50)), "Put", api.OK) // each in a segment of its own
	}
	all := func() string {
		text := ""
		for key := range s.All() {
			text += key
		}
		return text
	}
	for n, want := range []string{"abcd", "bcd", "acd", "abd", "abc", "abcd"} {
		d.FailAt(n)
		if got := all(); got != want {
			t.Errorf("when act %d fails it tells %q, want %q", n, got, want)
		}
	}
	d.FailAt(0)
	for n, want := range []string{"", "a", "ab", "abc", "abcd"} {
		d.BreakAt(n+1, true)
		if got := all(); got != want {
			t.Errorf("when act %d breaks off it tells %q, want %q", n+1, got, want)
		}
		d.Crash(room)
	}
	isOK(t, d.Remove(seg2))
	isOK(t, d.Truncate(seg3, 5))
	if got := all(); got != "ad" {
		t.Errorf("of what is left it tells %q", got)
	}
	checkKeys(t, s, "a", "b", "c", "d")
	// whoever removes what is to be told next has it left out
	text := ""
	for key := range s.All() {
		text += key
		d.Remove(seg4)
	}
	if text != "a" {
		t.Errorf("it tells %q", text)
	}
}

// A range that is left by a panic leaves the store as it is.
func TestAllWhoseCallerPanics(t *testing.T) {
	s := filled(t, "a", "b")
	func() {
		defer func() {
			if recover() == nil {
				t.Errorf("the caller's panic is gone")
			}
		}()
		for range s.All() {
			panic("no")
		}
	}()
	checkError(t, s.Put("c", "c"), "Put", api.OK)
	checkMap(t, s, map[string]string{"a": "a", "b": "b", "c": "c"})
}
