package store_test

import (
	"errors"
	"testing"

	"salvor/api"
	"salvor/store"
)

// failures are errors of each call: of this layer, and of those below.
func failures(t *testing.T) map[string]error {
	t.Helper()
	_, _, openErr := store.Open(diskOf(t, room), api.Config{})
	d := diskOf(t, room)
	d.BreakAt(1, false)
	d.Create("x")
	_, _, downErr := store.Open(d, plain)
	d = diskOf(t, room, clean(1, put(1, "a", "x"))...)
	s := opened(t, d, plain)
	d.FailAt(1)
	_, _, getErr := s.Get("a")
	_, _, keyErr := s.Get("")
	d.FailAt(1)
	putErr := s.Put("b", "")
	l := map[string]error{"Open 150": openErr, "Open 75": downErr, "Get 74": getErr, "Get 151": keyErr, "Put 74": putErr, "Put 155": s.Put("b", ""), "Delete 155": s.Delete("b"), "Sync 155": s.Sync(), "Merge 155": s.Merge()}
	s = opened(t, diskOf(t, 0), plain)
	l["Put 73"] = s.Put("b", "")
	s.Close()
	_, _, l["Get 153"] = s.Get("a")
	l["Put 153"], l["Delete 153"], l["Sync 153"], l["Merge 153"], l["Close 153"] = s.Put("a", ""), s.Delete("a"), s.Sync(), s.Merge(), s.Close()
	return l
}

// Each is an *api.Failure, whose Err is an api.Errno: errors.Is and errors.As find both.
func TestErrorsAreValues(t *testing.T) {
	for what, err := range failures(t) {
		if sayError(err) != what {
			t.Errorf("%s is %s", what, sayError(err))
		}
		var f *api.Failure
		var errno api.Errno
		if !errors.As(err, &f) || !errors.As(err, &errno) {
			t.Fatalf("errors.As finds no Failure, or no Errno, in %s", what)
		}
		if sayError(f) != what || sayError(failed(f.Call, errno)) != what {
			t.Errorf("errors.As finds %s and %d in %s", sayError(f), errno, what)
		}
		for n := api.Errno(0); n < 300; n++ {
			if errors.Is(err, n) != (n == errno) {
				t.Errorf("errors.Is of %s and %d is %v", what, n, errors.Is(err, n))
			}
		}
		if !errors.Is(err, f) || errors.Unwrap(err) != error(errno) {
			t.Errorf("%s is not itself, or has not its number within", what)
		}
		if err.Error() != f.Call+": "+errno.Error() {
			t.Errorf("%s tells %q", what, err.Error())
		}
	}
}

// Where all went well the error is nil, and no Failure that says nothing.
func TestNoErrorIsNil(t *testing.T) {
	d := diskOf(t, room)
	s, _, err := store.Open(d, plain)
	if err != nil {
		t.Fatalf("Open: %v", err)
	}
	_, _, getErr := s.Get("none")
	for i, err := range []error{s.Put("a", "x"), s.Delete("a"), s.Delete(), getErr, s.Sync(), s.Merge(), s.Close()} {
		if err != nil {
			t.Errorf("%d: %v", i, err)
		}
	}
}

// An error that was told is the caller's.
func TestErrorsAreTheCallers(t *testing.T) {
	s := opened(t, diskOf(t, room), plain)
	for range 3 {
		err := s.Put("", "")
		checkError(t, err, "Put", api.ErrStoreKey)
		err.(*api.Failure).Call, err.(*api.Failure).Err = "spoilt", nil
		err = s.Delete("")
		checkError(t, err, "Delete", api.ErrStoreKey)
		err.(*api.Failure).Call = "spoilt"
	}
}
