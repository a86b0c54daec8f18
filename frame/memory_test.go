package frame_test

import (
	"bytes"
	"sync"
	"testing"

	"salvor/api"
	"salvor/frame"
)

// spoil writes into a list, and into its spare room.
func spoil(b []byte) {
	b = b[:cap(b)]
	for i := range b {
		b[i] ^= 0xff
	}
}

// lists are the calls that give one.
func lists() map[string]func(api.Frame) ([]byte, api.Errno) {
	return map[string]func(api.Frame) ([]byte, api.Errno){"Body": frame.Body, "Encode": frame.Encode}
}

func someFrames() []api.Frame {
	l := edges()
	r := source()
	for range 300 {
		l = append(l, anyFrame(r))
	}
	return l
}

func TestReadChangesNothing(t *testing.T) {
	r := source()
	check := func(list []byte, at int) {
		room := append([]byte(anyText(r, 20)+string(list)), anyText(r, 50)...)
		before := bytes.Clone(room)
		frame.Decode(room[20:20+len(list)], at)
		if !bytes.Equal(room, before) {
			t.Fatalf("Decode at %d made of %x %x", at, before, room)
		}
	}
	for _, f := range someFrames() {
		check(frameByWords(f), 0)
		check(damaged(r, f), 0)
		check(append([]byte("ab"), frameByWords(f)...), 2)
		check(nil, 0)
	}
}

// What was read stays as it is, whatever becomes of the bytes that it was read from.
func TestReadKeepsNothing(t *testing.T) {
	for _, f := range someFrames() {
		b := frameByWords(f)
		got, _, _ := frame.Decode(b, 0)
		spoil(b)
		if got != f {
			t.Fatalf("of %#v came %#v, once the bytes were written into", f, got)
		}
		if again, count, errno := frame.Decode(b, 0); again != (api.Frame{}) || count != 0 || errno != api.ErrFrameLead {
			t.Fatalf("of bytes that were written into Decode tells %#v, %d, %d", again, count, errno)
		}
		spoil(b)
		checkRead(t, b, 0, f, len(b))
	}
}

func TestTwoAnswersShareNothing(t *testing.T) {
	for name, call := range lists() {
		for _, f := range someFrames() {
			one, _ := call(f)
			other, _ := call(f)
			want, rest := bytes.Clone(one), bytes.Clone(other[:cap(other)])
			spoil(one)
			if !bytes.Equal(other[:cap(other)], rest) {
				t.Fatalf("two answers of %s(%#v) share memory", name, f)
			}
			if got, _ := call(f); !bytes.Equal(got, want) {
				t.Fatalf("%s(%#v) = %x, once an answer was written into; want %x", name, f, got, want)
			}
		}
	}
}

// A text that was read shares no memory with a list that is written later, nor the other way round.
func TestWrittenListsAreNotKept(t *testing.T) {
	for _, f := range someFrames() {
		body, _ := frame.Body(f)
		b, _ := frame.Encode(f)
		got, _, _ := frame.Decode(b, 0)
		spoil(body)
		spoil(b)
		if got != f {
			t.Fatalf("of %#v came %#v, once the lists were written into", f, got)
		}
		checkTaken(t, got)
	}
}

// Nothing is kept from call to call: many can ask at once, of the same bytes.
func TestAskedAtOnce(t *testing.T) {
	frames := someFrames()
	var all []byte
	for _, f := range frames {
		all = append(all, frameByWords(f)...)
	}
	var group sync.WaitGroup
	var wrong [8]int
	for i := range wrong {
		group.Go(func() {
			at := 0
			for _, want := range frames {
				f, count, errno := frame.Decode(all, at)
				b, _ := frame.Encode(want)
				if f != want || errno != api.OK || !bytes.Equal(b, all[at:at+count]) || frame.Compare(f.Record, want.Record) != 0 {
					wrong[i]++
				}
				at += count
			}
		})
	}
	group.Wait()
	if wrong != [8]int{} {
		t.Fatalf("wrong answers of each goroutine: %v", wrong)
	}
}
