package store_test

import (
	"fmt"
	"strings"
	"testing"
	"time"

	"salvor/api"
)

// A disk full of records of many keys, and of few: opened, read, merged and opened again, and the time does not grow with the square of their number.
func TestManyRecords(t *testing.T) {
	t.Parallel()
	for _, x := range []struct{ count, keys int }{{40000, 40000}, {90000, 10}} {
		begin := time.Now()
		d := diskOf(t, api.MaxDisk)
		s := opened(t, d, api.Config{Limit: 100000, Every: 1000})
		for n := range x.count {
			checkError(t, s.Put(fmt.Sprint(n%x.keys), fmt.Sprint(n)), "Put", api.OK)
		}
		check := func(s keeping) {
			t.Helper()
			if n := len(s.Keys()); n != x.keys || s.Last() != uint64(x.count) {
				t.Fatalf("there are %d keys, last %d", n, s.Last())
			}
			count := 0
			for key, value := range s.All() {
				if count++; !strings.HasSuffix(value, key) && x.keys == 10 || value != key && x.keys > 10 {
					t.Fatalf("%q has %q", key, value)
				}
			}
			if count != x.keys {
				t.Fatalf("All() tells of %d keys", count)
			}
		}
		check(s)
		checkError(t, s.Merge(), "Merge", api.OK)
		check(s)
		checkError(t, s.Close(), "Close", api.OK)
		for _, fast := range []bool{false, true} {
			check(opened(t, d, api.Config{Limit: 64, Fast: fast}))
		}
		if took := time.Since(begin); took > 2*time.Minute {
			t.Errorf("it has taken %v", took)
		}
	}
}

// Many keys in one Delete.
func TestDeleteOfManyKeys(t *testing.T) {
	const count = 20000
	var keys []string
	d := diskOf(t, api.MaxDisk)
	s := opened(t, d, api.Config{Limit: api.MaxLimit})
	for n := range count {
		keys = append(keys, fmt.Sprint(n))
		checkError(t, s.Put(keys[n], ""), "Put", api.OK)
	}
	keys = append(keys, keys...)
	checkError(t, s.Delete(keys...), "Delete", api.OK)
	checkKeys(t, s)
	checkLast(t, s, 2*count)
}
