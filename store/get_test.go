package store_test

import (
	"fmt"
	"testing"

	"salvor/api"
)

// A key that has a value: one act; one that has none: no act.
func TestGetAsksForOneAct(t *testing.T) {
	for _, fast := range []bool{false, true} {
		d := diskOf(t, room, clean(1, put(1, "a", "x"), put(2, "a", "y"), put(3, "b", ""), gone(4, "c"), put(5, "d", "w"), gone(6, "d"))...)
		s := opened(t, d, api.Config{Limit: 100, Fast: fast})
		checkError(t, s.Put("e", "z"), "Put", api.OK)
		for _, x := range []struct {
			key, want string
			acts      int
		}{{"a", "y", 1}, {"b", "", 1}, {"e", "z", 1}, {"c", "", 0}, {"d", "", 0}, {"none", "", 0}, {key64, "", 0}} {
			before := d.Acts()
			if x.acts == 1 {
				checkGet(t, s, x.key, x.want)
			} else {
				checkNone(t, s, x.key, api.OK)
			}
			if d.Acts()-before != x.acts {
				t.Errorf("Get(%q): %d acts", x.key, d.Acts()-before)
			}
		}
		before := d.Acts()
		for _, key := range []string{"", key65} {
			checkNone(t, s, key, api.ErrStoreKey)
		}
		if checkKeys(t, s, "a", "b", "e"); d.Acts() != before {
			t.Errorf("%d acts for nothing", d.Acts()-before)
		}
		checkError(t, s.Close(), "Close", api.OK)
		before = d.Acts()
		for _, key := range []string{"a", "none", "", key65} {
			checkNone(t, s, key, api.ErrStoreClosed)
		}
		if d.Acts() != before {
			t.Errorf("a closed store has asked for %d acts", d.Acts()-before)
		}
	}
}

// What stands where the record should be is another one, none, or nothing.
func TestGetOfWhatIsThereNoMore(t *testing.T) {
	right := whole(put(5, "a", "old"))
	for _, x := range []struct {
		what, stands string
		want         api.Errno
	}{
		{"itself", right, api.OK},
		{"itself, and more behind", right + "more", api.OK},
		{"with another value", whole(put(5, "a", "new")), api.OK}, // that is this key's Put with this number
		{"of another key", whole(put(5, "b", "old")), api.ErrStoreBad},
		{"of a lower number", whole(put(4, "a", "old")), api.ErrStoreBad},
		{"of a greater number", whole(put(6, "a", "old")), api.ErrStoreBad},
		{"a Delete", whole(gone(5, "a\x00old")), api.ErrStoreBad},
		{"a Delete of another length", whole(gone(5, "a")), api.ErrStoreBad},
		{"a longer one", whole(put(5, "a", "older")), api.ErrStoreBad},
		{"a shorter one", whole(put(5, "a", "ol")), api.ErrStoreBad},
		{"an ending", footFrame(api.Ending{Count: 1}), api.ErrStoreBad},
		{"junk", "0123456789abcdef0123456789", api.ErrStoreBad},
		{"it, one byte on", "x" + right, api.ErrStoreBad},
		{"half of it", right[:8], api.ErrStoreBad},
		{"all but a byte", right[:len(right)-1], api.ErrStoreBad},
		{"no bytes", "", api.ErrStoreBad},
	} {
		for _, fast := range []bool{false, true} {
			d := diskOf(t, room, clean(1, put(1, "c", ""), put(5, "a", "old"))...)
			s := opened(t, d, api.Config{Limit: 100, Fast: fast})
			isOK(t, d.Truncate(seg1, len(whole(put(1, "c", "")))))
			isOK(t, d.Append(seg1, []byte(x.stands)))
			for range 2 {
				switch {
				case x.want != api.OK:
					checkNone(t, s, "a", x.want)
					for key := range s.All() {
						if key != "c" {
							t.Errorf("%s: All() tells of %q", x.what, key)
						}
					}
				case x.what == "with another value":
					checkGet(t, s, "a", "new")
				default:
					checkGet(t, s, "a", "old")
				}
			}
			checkKeys(t, s, "a", "c")
			checkGet(t, s, "c", "")
			// it is not broken by that
			checkError(t, s.Put("a", "newer"), "Put", api.OK)
			checkGet(t, s, "a", "newer")
		}
	}
}

func TestGetOfAFileThatIsGone(t *testing.T) {
	d := diskOf(t, room, append(clean(1, put(1, "a", "x")), clean(2, put(2, "b", "y"))...)...)
	s := opened(t, d, plain)
	checkError(t, s.Put("c", "z"), "Put", api.OK)
	isOK(t, d.Remove(seg1))
	checkNone(t, s, "a", api.ErrStoreBad)
	isOK(t, d.Rename(seg2, seg1))
	checkNone(t, s, "b", api.ErrStoreBad)
	checkNone(t, s, "a", api.ErrStoreBad)
	checkGet(t, s, "c", "z")
	checkKeys(t, s, "a", "b", "c")
	isOK(t, d.Rename(seg1, seg2))
	checkGet(t, s, "b", "y")
	checkError(t, s.Delete("a"), "Delete", api.OK) // it has a value, as far as the store knows
	checkNone(t, s, "a", api.OK)
	checkLast(t, s, 4)
}

// Errors of the disk are told as they are, and break nothing: what is read changes nothing.
func TestGetOfADiskThatFails(t *testing.T) {
	d := diskOf(t, room, clean(1, put(1, "a", "x"))...)
	s := opened(t, d, plain)
	d.FailAt(1)
	checkNone(t, s, "a", api.ErrDiskIO)
	checkGet(t, s, "a", "x")
	for _, done := range []bool{false, true} {
		d.BreakAt(1, done)
		for range 2 {
			checkNone(t, s, "a", api.ErrDiskDown)
		}
		checkNone(t, s, "none", api.OK)
		checkNone(t, s, "", api.ErrStoreKey)
		checkKeys(t, s, "a")
		for range s.All() {
			t.Errorf("All() tells what cannot be read")
		}
		d.Crash(0)
		checkGet(t, s, "a", "x")
	}
	d.FailAt(1)
	for range s.All() {
		t.Errorf("All() tells what cannot be read")
	}
	checkMap(t, s, map[string]string{"a": "x"})
	checkError(t, s.Put("a", "y"), "Put", api.OK) // it is not broken
	checkError(t, s.Sync(), "Sync", api.OK)
	checkError(t, s.Merge(), "Merge", api.OK)
	checkMap(t, s, map[string]string{"a": "y"})
}

// What was overwritten in the store is never told again, wherever it stands.
func TestGetTellsTheLastValue(t *testing.T) {
	d := diskOf(t, room)
	s := opened(t, d, api.Config{Limit: 64})
	for n := range 50 {
		checkError(t, s.Put("a", fmt.Sprint(n)), "Put", api.OK)
		checkGet(t, s, "a", fmt.Sprint(n))
		if n%3 == 0 {
			checkError(t, s.Delete("a"), "Delete", api.OK)
			checkNone(t, s, "a", api.OK)
		}
	}
	checkMap(t, s, map[string]string{"a": "49"})
}
