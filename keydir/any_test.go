package keydir_test

import (
	"math/rand"

	"salvor/api"
)

// All that is drawn here is one of few, so that two are often alike or nearly so.

var someKeys = []string{"a", "b", "ab", "\xa7"}

var someValues = []string{"", "x", "xx", "y", "\xff"}

func anyLSN(r *rand.Rand) uint64 { return pick[uint64](r, 1, 2, 3, 128, 256, greatest) }

func anyRecord(r *rand.Rand) api.Record {
	if r.Intn(3) == 0 {
		return gone(anyLSN(r), pick(r, someKeys...))
	}
	return put(anyLSN(r), pick(r, someKeys...), pick(r, someValues...))
}

// anyRecords are up to so many, some of which may not be.
func anyRecords(r *rand.Rand, most int) []api.Record {
	var l []api.Record
	for range r.Intn(most + 1) {
		if r.Intn(8) == 0 {
			l = append(l, pick(r, mayNotBe()...))
		} else {
			l = append(l, anyRecord(r))
		}
	}
	return l
}

func anyPlace(r *rand.Rand) api.Place {
	return api.Place{Segment: pick[uint32](r, 1, 2, 3), At: pick(r, 0, 9), Len: pick(r, 1, 1, 20)}
}

func anySeen(r *rand.Rand) api.Seen {
	if r.Intn(2) == 0 {
		return bare(anyRecord(r), anyPlace(r))
	}
	return read(anyRecord(r), anyPlace(r))
}

func someSeen(r *rand.Rand, count int) []api.Seen {
	l := make([]api.Seen, count)
	for i := range l {
		l[i] = anySeen(r)
	}
	return l
}
