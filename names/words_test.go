package names_test

import (
	"fmt"
	"math"
	"math/rand"
	"regexp"
	"slices"
	"strconv"
	"strings"
	"testing"

	"salvor/api"
)

func source() *rand.Rand { return rand.New(rand.NewSource(6)) }

func pick[T any](r *rand.Rand, l ...T) T { return l[r.Intn(len(l))] }

// numbered are the classes whose names have numbers.
var numbered = []api.Class{api.Segment, api.Hints, api.Quarantine}

// unnumbered are the others, and numbers that are no class.
var unnumbered = []api.Class{
	api.Other, api.Temp, 5, 6, 7, 64, 255, 256, 257, 258, 259, 1 << 32, 1<<32 + 1, 1<<32 + 2, 1<<32 + 3, math.MaxInt,
	-1, -2, -3, -4, -255, -1 << 32, math.MinInt, math.MinInt + 1, math.MinInt + 2, math.MinInt + 3,
}

// edgeNumbers are the first and the last, those whose digits have letters, and those about which one digit more begins.
var edgeNumbers = []uint32{
	1, 2, 9, 0xa, 0xf, 0x10, 42, 0xff, 0x100, 0xfff, 0x1000, 0xffff, 0x10000, 1000000, 0x0fffffff, 0x10000000,
	0x01234567, 0x76543210, 0x89abcdef, 0xfedcba98, 0xabcdef01, math.MaxInt32, 1 << 31, math.MaxUint32 - 1, math.MaxUint32,
}

// layout is a name of each class with numbers, as DOC.md writes it.
var layout = map[api.Class]string{api.Segment: "seg-%08x.log", api.Hints: "seg-%08x.hint", api.Quarantine: "bad-%08x.bin"}

func nameOf(c api.Class, n uint32) string { return fmt.Sprintf(layout[c], n) }

var forms = map[api.Class]*regexp.Regexp{
	api.Segment:    regexp.MustCompile(`\Aseg-([0-9a-f]{8})\.log\z`),
	api.Hints:      regexp.MustCompile(`\Aseg-([0-9a-f]{8})\.hint\z`),
	api.Quarantine: regexp.MustCompile(`\Abad-([0-9a-f]{8})\.bin\z`),
}

func parseByWords(name string) (api.Class, uint32) {
	if strings.HasSuffix(name, ".tmp") {
		return api.Temp, 0
	}
	for _, c := range numbered {
		if m := forms[c].FindStringSubmatch(name); m != nil && m[1] != "00000000" {
			n, err := strconv.ParseUint(m[1], 16, 32)
			if err != nil {
				panic(err)
			}
			return c, uint32(n)
		}
	}
	return api.Other, 0
}

// aheadByWords tells whether one name stands ahead of another one when they are sorted.
func aheadByWords(a, b string) bool {
	order := []api.Class{api.Segment, api.Hints, api.Quarantine, api.Temp, api.Other}
	aClass, aNumber := parseByWords(a)
	bClass, bNumber := parseByWords(b)
	if aClass != bClass {
		return slices.Index(order, aClass) < slices.Index(order, bClass)
	}
	if aNumber != bNumber {
		return aNumber < bNumber
	}
	return slices.Compare([]byte(a), []byte(b)) < 0
}

// sortedByWords lays each name where all that are there and stand ahead of it are ahead.
func sortedByWords(l []string) []string {
	var all []string
	for _, name := range l {
		if slices.Contains(all, name) {
			continue
		}
		at := 0
		for at < len(all) && aheadByWords(all[at], name) {
			at++
		}
		all = slices.Insert(all, at, name)
	}
	return all
}

// holders are the names beside which a new file of a class may not have a number.
func holders(c api.Class, n uint32) []string {
	if c == api.Quarantine {
		bad := nameOf(c, n)
		return []string{bad, bad + ".tmp"}
	}
	log, hint := nameOf(api.Segment, n), nameOf(api.Hints, n)
	return []string{log, hint, log + ".tmp", hint + ".tmp"}
}

func freshByWords(c api.Class, l []string) uint32 {
	for n := uint32(1); ; n++ {
		taken := slices.ContainsFunc(holders(c, n), func(name string) bool { return slices.Contains(l, name) })
		if !taken {
			return n
		}
	}
}

// near are names that are a byte off: one less, one more, or another one, at every place.
func near(name string) []string {
	var l []string
	for at := range len(name) {
		l = append(l, name[:at]+name[at+1:])
		for c := range 256 {
			l = append(l, name[:at]+string([]byte{byte(c)})+name[at+1:])
		}
	}
	for at := range len(name) + 1 {
		for _, c := range []byte("\x00\n -./0189:@AFGagfz{\x7f\x80\xff") {
			l = append(l, name[:at]+string([]byte{c})+name[at:])
		}
	}
	return l
}

// edgeNames are names of each sort that the chapter speaks of.
func edgeNames() []string {
	l := []string{
		"", "a", "b", "ab", "tmp", ".tm", ".tmp", ".tmp.tmp", "x.tmp", "x.tmpx", "x.TMP", "x.Tmp", "\n.tmp", "\x00.tmp", "\xff.tmp", ".tmp\n", ".tmp ",
		"seg-", "seg-.log", "seg-.hint", "bad-.bin", ".log", ".hint", ".bin", "seg", "bad", "seg-.lo", "seg-.tmp", "seg-00000001", "seg-00000001.", "00000001.log",
		"seg-00000000.log", "seg-00000000.hint", "bad-00000000.bin", "seg-00000000.log.tmp", "bad-00000000.bin.tmp",
		"seg-1.log", "seg-0000001.log", "seg-000000001.log", "seg-100000000.log", "seg-ffffffff0.hint", "bad-0fffffff.bin", "bad-00fffffffff.bin",
		"seg-0000000A.log", "seg-ABCDEF01.hint", "bad-0000000F.bin", "SEG-00000001.log", "Seg-00000001.log", "BAD-00000001.bin", "seg-00000001.LOG",
		"seg-0000000g.log", "seg-+0000001.log", "seg--0000001.log", "seg-0x000001.log", "seg-0_000001.log", "seg- 0000001.log", "seg-0000001 .log",
		"seg-00000001.bin", "bad-00000001.log", "bad-00000001.hint", "seg-00000001.tmp", "bad-00000001.tmp", "seg_00000001.log", "seg-00000001_log",
		"seg-00000001.logseg-00000001.log", "seg-seg-00000001.log", "seg-00000001.log.log", "seg-00000001.log.hint", "seg-00000001.hint.log", "/seg-00000001.log",
		"seg-٠٠٠١.log", "seg-00000０.log", "seg-０００００００１.log", "ſeg-00000001.log", "\ufeffseg-00000001.log", strings.Repeat("seg-00000001.log", 100), strings.Repeat("x", 5000),
	}
	for _, c := range numbered {
		for _, n := range edgeNumbers {
			name := nameOf(c, n)
			l = append(l, name, name+".tmp", name+".tmp.tmp", name+".tmp ", " "+name, strings.ToUpper(name))
		}
	}
	return l
}

func anyText(r *rand.Rand, count int) string {
	b := make([]byte, count)
	for i := range b {
		b[i] = pick(r, "abst-.09fF"[r.Intn(10)], byte(r.Intn(256)))
	}
	return string(b)
}

// anyName is often one of a class, with a number up to most, and as often nearly one.
func anyName(r *rand.Rand, most int) string {
	n := uint32(1 + r.Intn(most))
	name := nameOf(pick(r, numbered...), n)
	at := r.Intn(len(name))
	switch r.Intn(12) {
	case 0:
		return anyText(r, r.Intn(4))
	case 1:
		return anyText(r, r.Intn(4)) + ".tmp"
	case 2:
		return name[:at] + anyText(r, r.Intn(3)) + name[at:]
	case 3:
		return name[:at]
	case 4:
		return name + ".tmp.tmp"
	case 5, 6, 7:
		return name + ".tmp"
	}
	return name
}

// anyNames are names of which some may stand there twice.
func anyNames(r *rand.Rand, count int) []string {
	most := pick(r, 3, count/8+1, count/8+1, count/3+1, count+1, 1<<32-1)
	l := make([]string, count)
	for i := range l {
		l[i] = anyName(r, most)
		if i > 0 && r.Intn(6) == 0 {
			l[i] = l[r.Intn(i)]
		}
	}
	return l
}

// nameLists are lists of which the calls that take several are asked.
func nameLists() [][]string {
	r := source()
	l := [][]string{nil, {}, edgeNames()}
	for _, name := range edgeNames() {
		l = append(l, []string{name}, []string{name, name})
	}
	for i := range 1200 {
		l = append(l, anyNames(r, i%40))
	}
	return l
}

// runOf are the names of a class from the first number up to the last, shuffled.
func runOf(c api.Class, first, last int) []string {
	l := make([]string, 0, last-first+1)
	for n := first; n <= last; n++ {
		l = append(l, nameOf(c, uint32(n)))
	}
	source().Shuffle(len(l), func(i, k int) { l[i], l[k] = l[k], l[i] })
	return l
}

// The names that the tests make are of each class, and what is made by words is as the chapter writes it: else they would test nothing.
func TestTheTestsHaveNames(t *testing.T) {
	count := map[api.Class]int{}
	for _, l := range nameLists() {
		for _, name := range l {
			c, _ := parseByWords(name)
			count[c]++
		}
	}
	for c := api.Other; c <= api.Temp; c++ {
		if count[c] < 2000 {
			t.Errorf("of the class %d: %d", c, count[c])
		}
	}
	fresh := map[uint32]int{}
	for _, l := range nameLists() {
		fresh[min(freshByWords(api.Segment, l), 5)]++
	}
	for n := uint32(1); n <= 5; n++ {
		if fresh[n] < 40 {
			t.Errorf("the fresh number is %d (5: or more) %d times", n, fresh[n])
		}
	}
	if got := nameOf(api.Segment, 42); got != "seg-0000002a.log" {
		t.Errorf("by words segment 42 is %q", got)
	}
}
