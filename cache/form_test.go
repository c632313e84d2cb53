package cache_test

import (
	"bytes"
	"math"
	"runtime"
	"slices"
	"strings"
	"testing"

	"chandler/api"
	"chandler/cache"
	"chandler/ids"
	"chandler/pool"
)

// num is a number's bytes.
func num(n uint64) []byte {
	return ids.Put(nil, n)
}

// nums are numbers' bytes, one behind the other.
func nums(l ...uint64) []byte {
	var out []byte
	for _, n := range l {
		out = append(out, num(n)...)
	}
	return out
}

// fresh is a text that has not come ahead, at its place.
func fresh(place uint64, text string) []byte {
	return append(nums(place, uint64(len(text))), text...)
}

// bases are the pieces of which a small pool's bytes are; the tests change one or another.
func bases() map[string][]byte {
	return map[string][]byte{
		"01 kind":      num(api.Rpm),
		"02 repos":     num(1),
		"03 repo":      fresh(1, "m"),
		"04 priority":  num(5),
		"05 installed": num(0),
		"06 packages":  num(1),
		"07 name":      fresh(2, "a"),
		"08 evr":       fresh(3, "1-1"),
		"09 arch":      fresh(4, "noarch"),
		"10 vendor":    num(0),
		"11 provides":  num(0),
		"12 requires":  num(1),
		"13 or":        nums(api.DOr, 0, 0, 0),
		"14 args":      num(2),
		"15 b":         slices.Concat(num(api.DName), fresh(5, "b"), num(6), num(3), num(0)),
		"16 c":         slices.Concat(num(api.DName), fresh(6, "c"), num(0), num(0), num(0)),
		"17 others":    nums(0, 0, 0, 0, 0),
		"18 files":     num(0),
		"19 end":       nil,
	}
}

// joined are the pieces, in their names' order, with some of them changed.
func joined(changes map[string][]byte) []byte {
	l := bases()
	for name, with := range changes {
		if _, there := l[name]; !there {
			panic(name)
		}
		l[name] = with
	}
	var names []string
	for name := range l {
		names = append(names, name)
	}
	slices.Sort(names)
	var out []byte
	for _, name := range names {
		out = append(out, l[name]...)
	}
	return out
}

func smallPool(t *testing.T) *pool.Pool {
	a := pack("a", "1-1")
	a.Requires = []api.Dep{of(api.DOr, compared("b", 6, "1-1"), named("c"))}
	return poolOf(t, api.Rpm, api.Repo{Name: "m", Priority: 5, Packages: []api.Package{a}})
}

// The form that cache.go tells of: bytes of today are read tomorrow.
func TestForm(t *testing.T) {
	if b := again(t, smallPool(t)); !bytes.Equal(b, joined(nil)) {
		t.Errorf("%q, not %q", b, joined(nil))
	}
	if b := again(t, poolOf(t, api.Deb)); !bytes.Equal(b, nums(api.Deb, 0)) {
		t.Errorf("an empty pool: %q", b)
	}
}

// P9.2: bytes that say what may be otherwise, and are some other pool's.
func TestChanged(t *testing.T) {
	for _, c := range []map[string][]byte{
		{"01 kind": num(api.Deb)},
		{"04 priority": num(math.MaxUint64)},
		{"05 installed": num(1)},
		{"03 repo": fresh(1, "noarch"), "09 arch": num(1), "15 b": slices.Concat(num(api.DName), fresh(4, "b"), num(6), num(3), num(0)), "16 c": slices.Concat(num(api.DName), num(4), num(0), num(0), num(0))},
		{"13 or": nums(api.DAnd, 0, 0, 0)},
		{"18 files": slices.Concat(num(1), fresh(7, "/"))},
		{"02 repos": num(2), "19 end": slices.Concat(num(4), nums(0, 1, 0))},
	} {
		b := joined(c)
		p := reads(t, b)
		if !bytes.Equal(laid(t, p), b) {
			t.Errorf("%q is written as %q", b, laid(t, p))
		}
	}
}

// P9.2: bytes that no pool has.
func TestWrong(t *testing.T) {
	for what, c := range map[string]map[string][]byte{
		"kind 0":                       {"01 kind": num(0)},
		"kind 3":                       {"01 kind": num(3)},
		"the last kind":                {"01 kind": num(math.MaxUint64)},
		"a kind of two bytes":          {"01 kind": {129, 0}},
		"a kind of eleven bytes":       {"01 kind": []byte(strings.Repeat("\xff", 10) + "\x01")},
		"no repository, but one":       {"02 repos": num(0)},
		"two repositories, but one":    {"02 repos": num(2)},
		"nine repositories":            {"02 repos": num(9)},
		"2^63 repositories":            {"02 repos": num(1 << 63)},
		"2^64 - 1 repositories":        {"02 repos": num(math.MaxUint64)},
		"a repository without name":    {"03 repo": num(0)},
		"a name of 61 bytes":           {"03 repo": fresh(1, strings.Repeat("x", 61))},
		"a name that may not be":       {"03 repo": fresh(1, "(")},
		"a text as long as 2^63":       {"03 repo": append(nums(1, 1<<63), "m"...)},
		"a text as long as 2^64 - 1":   {"03 repo": append(nums(1, math.MaxUint64), "m"...)},
		"an empty text once more":      {"10 vendor": fresh(5, "")},
		"a text at the place 2":        {"03 repo": fresh(2, "m")},
		"a text at the place 2^63":     {"03 repo": fresh(1<<63, "m")},
		"a text at the last place":     {"03 repo": fresh(math.MaxUint64, "m")},
		"a text that is there":         {"07 name": fresh(2, "m")},
		"a place that is not there":    {"10 vendor": num(6)},
		"a priority of two bytes":      {"04 priority": {133, 0}},
		"installed 2":                  {"05 installed": num(2)},
		"installed 2^64 - 1":           {"05 installed": num(math.MaxUint64)},
		"no package, but one":          {"06 packages": num(0)},
		"two packages, but one":        {"06 packages": num(2)},
		"201 packages":                 {"06 packages": num(201)},
		"2^40 packages":                {"06 packages": num(1 << 40)},
		"2^64 - 1 packages":            {"06 packages": num(math.MaxUint64)},
		"a package without name":       {"07 name": num(0)},
		"a version that may not be":    {"08 evr": fresh(3, "1:")},
		"an architecture of capitals":  {"09 arch": fresh(4, "NOARCH")},
		"a vendor of a byte 127":       {"10 vendor": fresh(5, "\x7f")},
		"no provided one, but zeros":   {"11 provides": nil},
		"provided choices":             {"11 provides": num(1), "12 requires": nil, "18 files": nums(0, 0)},
		"two required, but one":        {"12 requires": num(2)},
		"17 required":                  {"12 requires": num(17)},
		"2^64 - 1 required":            {"12 requires": num(math.MaxUint64)},
		"a dependency of the kind 0":   {"13 or": nums(0, 0, 0, 0)},
		"of the kind 7":                {"13 or": nums(7, 0, 0, 0)},
		"of the kind -1":               {"13 or": nums(math.MaxUint64, 0, 0, 0)},
		"of the kind 2^32 + 3":         {"13 or": nums(1<<32+api.DOr, 0, 0, 0)},
		"a choice with a name":         {"13 or": nums(api.DOr, 1, 0, 0)},
		"a choice with a comparison":   {"13 or": nums(api.DOr, 0, 2, 0)},
		"a choice with a version":      {"13 or": nums(api.DOr, 0, 0, 3)},
		"a choice of one":              {"14 args": num(1)},
		"a choice of three, but two":   {"14 args": num(3)},
		"a choice of 17":               {"14 args": num(17)},
		"a choice of 2^63":             {"14 args": num(1 << 63)},
		"a choice of 2^64 - 1":         {"14 args": num(math.MaxUint64)},
		"a comparison without version": {"16 c": slices.Concat(num(api.DName), fresh(6, "c"), num(2), num(0), num(0))},
		"a version without comparison": {"16 c": slices.Concat(num(api.DName), fresh(6, "c"), num(0), num(3), num(0))},
		"a comparison 8":               {"16 c": slices.Concat(num(api.DName), fresh(6, "c"), num(8), num(3), num(0))},
		"a name of more":               {"16 c": slices.Concat(num(api.DName), fresh(6, "c"), num(0), num(0), num(2), nums(1, 6, 0, 0, 0), nums(1, 6, 0, 0, 0))},
		"17 files":                     {"18 files": num(17)},
		"2^64 - 1 files":               {"18 files": num(math.MaxUint64)},
		"a file, but none":             {"18 files": num(1)},
		"a file of no path":            {"18 files": nums(1, 2)},
		"an end":                       {"19 end": {0}},
		"a repository of the same":     {"02 repos": num(2), "19 end": nums(1, 0, 0, 0)},
		"two installed ones":           {"02 repos": num(2), "05 installed": num(1), "19 end": nums(2, 0, 1, 0)},
	} {
		refuses(t, what, joined(c))
	}
}

// nested are so many choices, each within the one ahead, and names.
func nested(deep int, place uint64) []byte {
	choice := slices.Concat(nums(api.DOr, 0, 0, 0, 2), nums(api.DName, place, 0, 0, 0))
	return append(bytes.Repeat(choice, deep), nums(api.DName, place, 0, 0, 0)...)
}

// P9.2: dependencies of MaxDepParts names are read, however they are nested; those of more are refused, however deep.
func TestNested(t *testing.T) {
	requires := func(dep []byte) []byte {
		return joined(map[string][]byte{"13 or": dep, "14 args": nil, "15 b": nil, "16 c": nil})
	}
	again(t, reads(t, requires(nested(api.MaxDepParts-1, 2))))
	for _, deep := range []int{api.MaxDepParts, 2 * api.MaxDepParts, 1000, 1 << 20} {
		refuses(t, "nested", requires(nested(deep, 2)))
		refuses(t, "nested and cut", requires(nested(deep, 2))[:5*deep])
		// Choices of one: no names behind.
		refuses(t, "within one another", requires(bytes.Repeat(nums(api.DOr, 0, 0, 0, 1), deep)))
	}
	leaf := nums(api.DName, 2, 0, 0, 0)
	flat := func(n int) []byte {
		return append(nums(api.DAnd, 0, 0, 0, uint64(n)), bytes.Repeat(leaf, n)...)
	}
	again(t, reads(t, requires(flat(api.MaxDepParts))))
	refuses(t, "17 flat", requires(flat(api.MaxDepParts+1)))
	// Two names a choice, eight choices: 16 names; and one name more.
	pairs := slices.Concat(nums(api.DAnd, 0, 0, 0, 8), bytes.Repeat(flat(2), 8))
	again(t, reads(t, requires(pairs)))
	more := slices.Concat(nums(api.DAnd, 0, 0, 0, 9), bytes.Repeat(flat(2), 8), leaf)
	refuses(t, "17 in pairs", requires(more))
	refuses(t, "16 times 16", requires(slices.Concat(nums(api.DAnd, 0, 0, 0, 16), bytes.Repeat(flat(16), 16))))
}

// P9.2: who says that more comes than there is gets no room for it.
func TestNoRoomForWhatIsSaid(t *testing.T) {
	most := num(math.MaxInt64)
	for _, c := range []map[string][]byte{
		{"02 repos": most}, {"06 packages": most}, {"12 requires": most}, {"14 args": most}, {"18 files": most},
		{"03 repo": append(num(1), most...)}, {"03 repo": nums(1, 1<<40)}, {"06 packages": num(api.MaxPackages)},
	} {
		b := joined(c)
		var was, is runtime.MemStats
		runtime.ReadMemStats(&was)
		refuses(t, "more than there is", b)
		runtime.ReadMemStats(&is)
		if got := is.TotalAlloc - was.TotalAlloc; got > 1<<20 {
			t.Errorf("%q took %d bytes", b, got)
		}
	}
}

// P9.2: bytes that are cut anywhere, or longer.
func TestCutAndLonger(t *testing.T) {
	for _, p := range []*pool.Pool{
		poolOf(t, api.Rpm), smallPool(t),
		poolOf(t, api.Deb, api.Repo{Name: "main", Priority: -300, Packages: []api.Package{full(), full(), pack("full", "2")}}, api.Repo{Name: "system", Installed: true}),
	} {
		b := laid(t, p)
		for n := range b {
			refuses(t, "cut at its end", b[:n])
			// What is left may be some other pool's: two bytes are an empty one's, and a priority may have lost one.
			readsOrRefuses(t, b[n+1:])
			readsOrRefuses(t, slices.Concat(b[:n], b[n+1:]))
		}
		for c := range 256 {
			refuses(t, "longer", append(slices.Clone(b), byte(c)))
		}
		refuses(t, "twice", slices.Concat(b, b))
	}
}

// readsOrRefuses asks P9.2 of any bytes: they are refused, or those of the pool that they are read as.
func readsOrRefuses(t *testing.T, b []byte) bool {
	t.Helper()
	p, e := cache.Read(b)
	if e != api.OK {
		if p != nil || e != api.ErrCacheForm {
			t.Fatalf("Read %q: %v, %v", b, p, e)
		}
		return false
	}
	if c := laid(t, p); !bytes.Equal(b, c) {
		t.Fatalf("%q is written as %q", b, c)
	}
	same(t, p, reads(t, b))
	return true
}

// P9.2: each byte turned into each other one, and each two beside each other, and all of them.
func TestTurned(t *testing.T) {
	p := poolOf(t, api.Rpm, api.Repo{Name: "main", Packages: []api.Package{full(), pack("full", "2")}}, api.Repo{Name: "system", Installed: true})
	b := laid(t, p)
	read, refused := 0, 0
	try := func(c []byte) {
		if bytes.Equal(b, c) {
			return
		}
		if readsOrRefuses(t, c) {
			read++
		} else {
			refused++
		}
	}
	for i, was := range b {
		for c := range 256 {
			turned := slices.Clone(b)
			turned[i] = byte(c)
			try(turned)
		}
		if i > 0 {
			turned := slices.Clone(b)
			turned[i-1], turned[i] = was, b[i-1]
			try(turned)
		}
	}
	turned := slices.Clone(b)
	slices.Reverse(turned)
	refuses(t, "the last one first", turned)
	if read == 0 || refused == 0 {
		t.Errorf("%d read, %d refused", read, refused)
	}
}

// P9.2: all bytes that are short, of which two alone are pools': the empty ones'.
func TestShort(t *testing.T) {
	read := 0
	try := func(b ...byte) {
		if readsOrRefuses(t, b) {
			read++
		}
	}
	try()
	for x := range 256 {
		try(byte(x))
		for y := range 256 {
			try(byte(x), byte(y))
			for _, z := range []byte{0, 1, 2, 127, 128, 255} {
				try(byte(x), byte(y), z)
			}
		}
	}
	if read != 2 {
		t.Errorf("%d are pools, not the two that are empty", read)
	}
}
