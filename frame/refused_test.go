package frame_test

import (
	"math"
	"strings"
	"testing"

	"salvor/api"
	"salvor/frame"
)

func checkRefused(t *testing.T, f api.Frame, errno api.Errno) {
	t.Helper()
	if got, gotErrno := frame.Body(f); len(got) != 0 || gotErrno != errno {
		t.Fatalf("Body(%#v) = %x, %d, want %d", f, got, gotErrno, errno)
	}
	if got, gotErrno := frame.Encode(f); len(got) != 0 || gotErrno != errno {
		t.Fatalf("Encode(%#v) = %x, %d, want %d", f, got, gotErrno, errno)
	}
}

func checkTaken(t *testing.T, f api.Frame) {
	t.Helper()
	checkWritten(t, f, string(bodyByWords(f)), string(frameByWords(f)))
}

// with is a frame with something of it turned.
func with(f api.Frame, turn func(*api.Frame)) api.Frame {
	turn(&f)
	return f
}

// noKinds are kinds that no frame has; of some the lowest byte is one that a frame has.
func noKinds() []api.Kind {
	return []api.Kind{0, 5, 6, -1, -2, 255, 256, 257, 258, 259, 260, -255, 1<<32 + 1, 1<<62 + 3, math.MaxInt, math.MinInt}
}

func TestRefuseKinds(t *testing.T) {
	checkRefused(t, api.Frame{}, api.ErrFrameKind)
	for _, kind := range noKinds() {
		for _, f := range []api.Frame{put(1, "k", "v"), gone(1, "k"), hint(1, api.Put, 0, 1, "k"), foot(0, 0, 0, 0)} {
			checkRefused(t, with(f, func(f *api.Frame) { f.Kind = kind }), api.ErrFrameKind)
		}
		// the record's is another, or the same one that no frame has
		checkRefused(t, frame.Of(api.Record{LSN: 1, Kind: kind, Key: "k"}), api.ErrFrameKind)
		checkRefused(t, with(put(1, "k", "v"), func(f *api.Frame) { f.Record.Kind = kind }), api.ErrFrameKind)
		checkRefused(t, with(gone(1, "k"), func(f *api.Frame) { f.Record.Kind = kind }), api.ErrFrameKind)
		checkRefused(t, hint(1, kind, 0, 1, "k"), api.ErrFrameKind)
	}
}

func TestRefuseARecordOfAnotherKind(t *testing.T) {
	for kind := api.Put; kind <= api.Foot; kind++ {
		if kind != api.Put {
			checkRefused(t, with(put(1, "k", ""), func(f *api.Frame) { f.Record.Kind = kind }), api.ErrFrameKind)
		}
		if kind != api.Delete {
			checkRefused(t, with(gone(1, "k"), func(f *api.Frame) { f.Record.Kind = kind }), api.ErrFrameKind)
		}
	}
	// of a pointer and of an ending no record is looked at: a frame of theirs that has one has too much
	checkRefused(t, frame.Of(api.Record{LSN: 1, Kind: api.Hint, Key: "k"}), api.ErrFrameKind)
	checkRefused(t, frame.Of(api.Record{LSN: 1, Kind: api.Foot, Key: "k"}), api.ErrFrameArg)
	checkRefused(t, frame.Of(api.Record{Kind: api.Foot}), api.ErrFrameArg)
}

func TestRefuseAPointerToWhatIsNoRecord(t *testing.T) {
	checkTaken(t, hint(1, api.Put, 0, 1, "k"))
	checkTaken(t, hint(1, api.Delete, 0, 1, "k"))
	checkRefused(t, hint(1, 0, 0, 1, "k"), api.ErrFrameKind)
	checkRefused(t, hint(1, api.Hint, 0, 1, "k"), api.ErrFrameKind)
	checkRefused(t, hint(1, api.Foot, 0, 1, "k"), api.ErrFrameKind)
}

func TestRefuseLSNs(t *testing.T) {
	for _, lsn := range []uint64{1, 2, 1 << 63, 1<<64 - 1} {
		checkTaken(t, put(lsn, "k", "v"))
		checkTaken(t, gone(lsn, "k"))
		checkTaken(t, hint(lsn, api.Put, 0, 1, "k"))
	}
	checkRefused(t, put(0, "k", "v"), api.ErrFrameLSN)
	checkRefused(t, gone(0, "k"), api.ErrFrameLSN)
	checkRefused(t, hint(0, api.Put, 0, 1, "k"), api.ErrFrameLSN)
}

func TestRefuseKeys(t *testing.T) {
	each := func(key string, check func(api.Frame)) {
		check(put(1, key, "v"))
		check(gone(1, key))
		check(hint(1, api.Delete, 0, 1, key))
	}
	for _, length := range []int{1, 2, 63, 64} {
		each(strings.Repeat("k", length), func(f api.Frame) { checkTaken(t, f) })
	}
	for _, length := range []int{0, 65, 66, 127, 128, 129, 256 + 1, 1 << 20} {
		each(strings.Repeat("k", length), func(f api.Frame) { checkRefused(t, f, api.ErrFrameKey) })
	}
	// bytes count, not signs
	each(strings.Repeat("\u00e4", 32), func(f api.Frame) { checkTaken(t, f) })
	each(strings.Repeat("\u00e4", 33), func(f api.Frame) { checkRefused(t, f, api.ErrFrameKey) })
	// as they are, not as they are escaped
	each(strings.Repeat("\xa7", 64), func(f api.Frame) { checkTaken(t, f) })
}

func TestRefuseValues(t *testing.T) {
	for _, length := range []int{0, 1, 2047, 2048} {
		checkTaken(t, put(1, "k", strings.Repeat("v", length)))
	}
	for _, length := range []int{2049, 2050, 4096, 1 << 21} {
		checkRefused(t, put(1, "k", strings.Repeat("v", length)), api.ErrFrameValue)
	}
	checkTaken(t, put(1, "k", strings.Repeat("\xa6", 2048)))
	for _, value := range []string{"v", "\x00", strings.Repeat("v", 2048), strings.Repeat("v", 2049)} {
		checkRefused(t, with(gone(1, "k"), func(f *api.Frame) { f.Record.Value = value }), api.ErrFrameValue)
	}
}

func TestRefuseNumbersOfAPointer(t *testing.T) {
	for _, n := range []int{1, 2, 4194303, 4194304} {
		checkTaken(t, hint(1, api.Put, n, 1, "k"))
		checkTaken(t, hint(1, api.Put, 0, n, "k"))
	}
	checkTaken(t, hint(1, api.Put, 0, 1, "k"))
	checkRefused(t, hint(1, api.Put, 0, 0, "k"), api.ErrFrameArg)
	for _, n := range []int{-1, -2, 4194305, 1 << 32, 1<<32 + 1, 1 << 62, math.MaxInt, math.MinInt} {
		checkRefused(t, hint(1, api.Put, n, 1, "k"), api.ErrFrameArg)
		checkRefused(t, hint(1, api.Delete, 0, n, "k"), api.ErrFrameArg)
	}
}

func TestRefuseNumbersOfAnEnding(t *testing.T) {
	each := func(n int, check func(api.Frame)) {
		check(foot(n, 1, 2, 3))
		check(foot(1, n, 2, 3))
		check(foot(1, 2, n, 3))
	}
	for _, n := range []int{0, 1, 4194303, 4194304} {
		each(n, func(f api.Frame) { checkTaken(t, f) })
	}
	for _, n := range []int{-1, -2, 4194305, 1 << 32, 1 << 62, math.MaxInt, math.MinInt} {
		each(n, func(f api.Frame) { checkRefused(t, f, api.ErrFrameArg) })
	}
	for _, sum := range []uint32{0, 1, 1 << 31, 1<<32 - 1} {
		checkTaken(t, foot(1, 2, 3, sum))
	}
}

// What a kind has not must be zero, in each of its fields.
func TestRefuseWhatTheKindHasNot(t *testing.T) {
	record := []func(*api.Frame){
		func(f *api.Frame) { f.Record.LSN = 1 },
		func(f *api.Frame) { f.Record.Kind = api.Put },
		func(f *api.Frame) { f.Record.Kind = f.Kind },
		func(f *api.Frame) { f.Record.Key = "k" },
		func(f *api.Frame) { f.Record.Value = "\x00" },
	}
	pointer := []func(*api.Frame){
		func(f *api.Frame) { f.Pointer.LSN = 1 },
		func(f *api.Frame) { f.Pointer.Kind = api.Put },
		func(f *api.Frame) { f.Pointer.Kind = 77 },
		func(f *api.Frame) { f.Pointer.At = 1 },
		func(f *api.Frame) { f.Pointer.Len = -1 },
		func(f *api.Frame) { f.Pointer.Key = "k" },
	}
	ending := []func(*api.Frame){
		func(f *api.Frame) { f.Ending.Count = 1 },
		func(f *api.Frame) { f.Ending.Print.Bytes = 1 },
		func(f *api.Frame) { f.Ending.Print.Frames = -1 },
		func(f *api.Frame) { f.Ending.Print.Sum = 1 },
	}
	check := func(f api.Frame, parts ...[]func(*api.Frame)) {
		checkTaken(t, f)
		for _, part := range parts {
			for _, turn := range part {
				checkRefused(t, with(f, turn), api.ErrFrameArg)
			}
		}
	}
	check(put(1, "k", "v"), pointer, ending)
	check(gone(1, "k"), pointer, ending)
	check(hint(1, api.Put, 0, 1, "k"), record, ending)
	check(foot(0, 0, 0, 0), record, pointer)
}

// Of a record that may not be in several ways the first is told: mended one by one, they come to light in their order.
func TestRefuseTellsTheFirstOfARecord(t *testing.T) {
	f := api.Frame{Kind: api.Delete, Record: api.Record{Kind: api.Put, Value: "v"}, Ending: api.Ending{Count: 1}}
	checkRefused(t, f, api.ErrFrameKind)
	f.Record.Kind = api.Delete
	checkRefused(t, f, api.ErrFrameLSN)
	f.Record.LSN = 1
	checkRefused(t, f, api.ErrFrameKey)
	f.Record.Key = "k"
	checkRefused(t, f, api.ErrFrameValue)
	f.Record.Value = ""
	checkRefused(t, f, api.ErrFrameArg)
	f.Ending.Count = 0
	checkTaken(t, f)
}

func TestRefuseTellsTheFirstOfAPointer(t *testing.T) {
	f := api.Frame{Kind: 5, Pointer: api.Pointer{Kind: 3, At: -1}, Record: api.Record{Value: strings.Repeat("v", 2049)}}
	checkRefused(t, f, api.ErrFrameKind)
	f.Kind = api.Hint
	checkRefused(t, f, api.ErrFrameKind)
	f.Pointer.Kind = api.Put
	checkRefused(t, f, api.ErrFrameLSN)
	f.Pointer.LSN = 1
	checkRefused(t, f, api.ErrFrameKey)
	f.Pointer.Key = "k"
	// the value is none of a pointer's: it is too much, not too long
	checkRefused(t, f, api.ErrFrameArg)
	f.Pointer.At, f.Pointer.Len = 0, 1
	checkRefused(t, f, api.ErrFrameArg)
	f.Record.Value = ""
	checkTaken(t, f)
}

func TestRefuseTellsTheFirstOfAnEnding(t *testing.T) {
	f := api.Frame{Kind: 0, Ending: api.Ending{Count: -1}, Pointer: api.Pointer{Kind: 9}}
	checkRefused(t, f, api.ErrFrameKind)
	f.Kind = api.Foot
	checkRefused(t, f, api.ErrFrameArg)
	f.Ending.Count = 0
	checkRefused(t, f, api.ErrFrameArg)
	f.Pointer.Kind = 0
	checkTaken(t, f)
}

// Of frames with fields of any kind, right and wrong ones together, each is taken or refused as the words say.
func TestRefuseIsWhatTheWordsSay(t *testing.T) {
	r := source()
	key, value := strings.Repeat("k", 66), strings.Repeat("v", 2050)
	anyKind := func() api.Kind { return pick(r, api.Put, api.Delete, api.Hint, api.Foot, pick(r, noKinds()...)) }
	anyKey := func() string { return pick(r, "", "k", "k", "k", key[:64], key[:65]) }
	anyNumber := func() int { return pick(r, -1, 0, 1, 1, 4194304, 4194304, 4194305, 1<<40) }
	told := map[api.Errno]int{}
	for range 200000 {
		f := anyFrame(r)
		for range 1 + r.Intn(3) {
			turns := []func(){
				func() { f.Kind = anyKind() },
				func() { f.Record.Kind = pick(r, f.Kind, anyKind()) },
				func() { f.Record.LSN = uint64(r.Intn(2)) },
				func() { f.Record.Key = anyKey() },
				func() { f.Record.Value = pick(r, "", "v", value[:2048], value[:2049]) },
				func() { f.Record = api.Record{} },
				func() { f.Pointer.Kind = anyKind() },
				func() { f.Pointer.LSN = uint64(r.Intn(2)) },
				func() { f.Pointer.Key = anyKey() },
				func() { f.Pointer.At = anyNumber() },
				func() { f.Pointer.Len = anyNumber() },
				func() { f.Pointer = api.Pointer{} },
				func() { f.Ending.Count = anyNumber() },
				func() { f.Ending.Print.Bytes = anyNumber() },
				func() { f.Ending.Print.Frames = anyNumber() },
				func() { f.Ending.Print.Sum = r.Uint32() },
				func() { f.Ending = api.Ending{} },
			}
			turns[r.Intn(len(turns))]()
		}
		errno := refusedByWords(f)
		told[errno]++
		if errno == api.OK {
			checkTaken(t, f)
			continue
		}
		checkRefused(t, f, errno)
	}
	for _, errno := range []api.Errno{api.OK, api.ErrFrameKind, api.ErrFrameLSN, api.ErrFrameKey, api.ErrFrameValue, api.ErrFrameArg} {
		if told[errno] < 500 {
			t.Fatalf("%d was the answer only %d times", errno, told[errno])
		}
	}
}
