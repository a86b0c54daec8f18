package escape_test

import (
	"bytes"
	"slices"
	"testing"

	"salvor/escape"
)

type told struct {
	at int
	c  byte
}

func collect(seq func(func(int, byte) bool)) []told {
	var l []told
	for at, c := range seq {
		l = append(l, told{at, c})
	}
	return l
}

func checkEach(t *testing.T, escaped string, want ...told) {
	t.Helper()
	if got := collect(escape.Each([]byte(escaped))); !slices.Equal(got, want) {
		t.Errorf("Each(%x) tells %x, want %x", escaped, got, want)
	}
}

// eachByWords is what the chapter says of Each, by what it says of Open and Wrap.
func eachByWords(escaped []byte) []told {
	_, errno, bad := openByWords(escaped)
	if errno != 0 {
		escaped = escaped[:bad]
	}
	plain, _, _ := openByWords(escaped)
	var l []told
	at := 0
	for i := range len(plain) {
		l = append(l, told{at, plain[i]})
		at += len(wrapByWords([]byte(plain[i : i+1])))
	}
	return l
}

func TestEachTellsPlacesAndPlainBytes(t *testing.T) {
	checkEach(t, "ab", told{0, 'a'}, told{1, 'b'})
	checkEach(t, "\xa6\x01", told{0, 0xa7})
	checkEach(t, "\xa6\x00", told{0, 0xa6})
	checkEach(t, "\xa6\x01ab", told{0, 0xa7}, told{2, 'a'}, told{3, 'b'})
	checkEach(t, "a\xa6\x00b", told{0, 'a'}, told{1, 0xa6}, told{3, 'b'})
	checkEach(t, "ab\xa6\x01", told{0, 'a'}, told{1, 'b'}, told{2, 0xa7})
	checkEach(t, "\xa6\x01\xa6\x00\x00\x01", told{0, 0xa7}, told{2, 0xa6}, told{4, 0x00}, told{5, 0x01})
}

func TestEachOfNothing(t *testing.T) {
	for _, escaped := range [][]byte{nil, {}, []byte("ab")} {
		escaped = escaped[:0] // also where something stands in the spare room
		if escape.Each(escaped) == nil {
			t.Error("Each is nil")
		}
		if got := collect(escape.Each(escaped)); len(got) > 0 {
			t.Errorf("Each of nothing tells %x", got)
		}
	}
}

func TestEachEndsAtWhatCannotStand(t *testing.T) {
	checkEach(t, "\xa6\x01\x62\xa6", told{0, 0xa7}, told{2, 0x62})
	for _, bad := range []string{"\xa7", "\xa6\x02", "\xa6\xff", "\xa6\xa6", "\xa6\xa7", "\xa7\xa6", "\xa6"} {
		checkEach(t, bad)
		checkEach(t, "a\xa6\x00"+bad, told{0, 'a'}, told{1, 0xa6})
	}
	for _, bad := range []string{"\xa7", "\xa6\x02", "\xa6\xff", "\xa6\xa6", "\xa6\xa7"} { // what could stand again is not told
		checkEach(t, bad+"\x00a")
		checkEach(t, "a"+bad+"\x00b\xa6\x01", told{0, 'a'})
	}
	// what stands in the spare room is no part of a list
	if got := collect(escape.Each([]byte("a\xa6\x01")[:2])); !slices.Equal(got, []told{{0, 'a'}}) {
		t.Errorf("Each of a list that ends within a pair tells %x", got)
	}
	if escape.Each([]byte("\xa7")) == nil {
		t.Error("Each is nil")
	}
}

func TestEachIsWhatTheWordsSay(t *testing.T) {
	check := func(escaped []byte) { checkEach(t, string(escaped), eachByWords(escaped)...) }
	eachShort(5, check)
	r := source()
	for range 2000 {
		check(anyBytes(r, r.Intn(12)))
		check(goodBytes(r, r.Intn(100)))
	}
}

func TestEachTellsWhatOpenGives(t *testing.T) {
	r := source()
	for count := range 500 {
		escaped := goodBytes(r, count)
		var got []byte
		for _, c := range escape.Each(escaped) {
			got = append(got, c)
		}
		if want, _, _ := escape.Open(escaped); !bytes.Equal(got, want) {
			t.Errorf("Each(%x) tells %x, want %x", escaped, got, want)
		}
	}
}

func TestEachAgainAndAgain(t *testing.T) {
	for _, escaped := range []string{"a\xa6\x01b", "a\xa6\x01b\xa7c", "a\xa6\x01b\xa6"} {
		each := escape.Each([]byte(escaped))
		for range 3 {
			if got := collect(each); !slices.Equal(got, []told{{0, 'a'}, {1, 0xa7}, {3, 'b'}}) {
				t.Errorf("Each(%x) tells %x", escaped, got)
			}
		}
	}
}

func TestEachWithinItself(t *testing.T) {
	each := escape.Each([]byte("a\xa6\x01\xa6\x00b"))
	want := []told{{0, 'a'}, {1, 0xa7}, {3, 0xa6}, {5, 'b'}}
	var outer []told
	for at, c := range each {
		outer = append(outer, told{at, c})
		if inner := collect(each); !slices.Equal(inner, want) {
			t.Errorf("within: %x, want %x", inner, want)
		}
		for range each { // also when the inner one is given up
			break
		}
	}
	if !slices.Equal(outer, want) {
		t.Errorf("around: %x, want %x", outer, want)
	}
}

// Called by hand, since a range would panic by itself if it were told more.
func TestEachStopsWhenItIsGivenUp(t *testing.T) {
	each := escape.Each([]byte("a\xa6\x01\xa6\x00b"))
	want := []told{{0, 'a'}, {1, 0xa7}, {3, 0xa6}, {5, 'b'}}
	for stop := 1; stop <= len(want); stop++ {
		var got []told
		each(func(at int, c byte) bool {
			got = append(got, told{at, c})
			return len(got) < stop
		})
		if !slices.Equal(got, want[:stop]) {
			t.Errorf("given up at the byte %d: %x, want %x", stop, got, want[:stop])
		}
		if again := collect(each); !slices.Equal(again, want) {
			t.Errorf("ranged over again behind that: %x, want %x", again, want)
		}
	}
}

func TestEachLooksAtEachByteInItsTurn(t *testing.T) {
	each := escape.Each(bytes.Repeat([]byte("a"), 1<<20))
	for range 100000 { // gone through to the end each time, this would take minutes
		for range each {
			break
		}
	}
}

// What the list holds is looked at as the range goes, neither when the iterator is made nor when the range begins.
func TestEachOfAListThatChanges(t *testing.T) {
	change := func(escaped, then string, want ...told) {
		t.Helper()
		b := []byte(escaped)
		var got []told
		for at, c := range escape.Each(b) {
			got = append(got, told{at, c})
			copy(b, then)
		}
		if !slices.Equal(got, want) {
			t.Errorf("of %x, in the range changed into %x, Each tells %x, want %x", escaped, then, got, want)
		}
	}
	change("abc", "xyz", told{0, 'a'}, told{1, 'y'}, told{2, 'z'})
	change("abc", "a\xa6\x01", told{0, 'a'}, told{1, 0xa7})
	change("abc", "a\xa7c", told{0, 'a'})
	change("abc", "ab\xa6", told{0, 'a'}, told{1, 'b'})
	change("a\xa7c", "abc", told{0, 'a'}, told{1, 'b'}, told{2, 'c'})
	change("\xa6\x01c", "abc", told{0, 0xa7}, told{2, 'c'}) // the pair was told whole
	change("a\xa6\x00", "abc", told{0, 'a'}, told{1, 'b'}, told{2, 'c'})

	b := []byte("abc")
	each := escape.Each(b)
	copy(b, "x\xa6\x00")
	if got := collect(each); !slices.Equal(got, []told{{0, 'x'}, {1, 0xa6}}) {
		t.Errorf("of a list that was changed ahead of the range Each tells %x", got)
	}
}
