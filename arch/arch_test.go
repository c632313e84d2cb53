package arch_test

import (
	"math/rand"
	"slices"
	"strings"
	"testing"
	"unsafe"

	"chandler/api"
	"chandler/arch"
)

// small are the bytes that a name may have.
const small = "abcdefghijklmnopqrstuvwxyz0123456789_"

// others are names that no table of these tests has.
func others() []string {
	return []string{
		"", "ppc", "s390", "noarc", "noarch2", "NOARCH", "Noarch", " noarch", "noarch ", "noarch\x00", ">", ":", "a>b", "a:b", "A", "é", "\xff", "1",
		strings.Repeat("n", 20), strings.Repeat("n", 21), strings.Repeat("noarch", 1000),
	}
}

func parse(t *testing.T, text string) *arch.Table {
	t.Helper()
	x, e := arch.Parse(text)
	if x == nil || e != api.OK {
		t.Fatalf("Parse %q: %v, %v", text, x, e)
	}
	return x
}

func refuses(t *testing.T, text string) {
	t.Helper()
	if x, e := arch.Parse(text); x != nil || e != api.ErrArchForm {
		t.Errorf("Parse %q: %v, %v", text, x, e)
	}
}

// scores asks for the scores of all that a table has, beside noarch, and of what it has not.
func scores(t *testing.T, text string, want map[string]int) {
	t.Helper()
	x := parse(t, text)
	for name, score := range want {
		if n := x.Score(name); n != score {
			t.Errorf("%q: Score %q: %d, not %d", text, name, n, score)
		}
	}
	if n := x.Score("noarch"); n != 1 {
		t.Errorf("%q: Score noarch: %d", text, n)
	}
	for _, name := range others() {
		if n := x.Score(name); n != want[name] {
			t.Errorf("%q: Score %q: %d, not %d", text, name, n, want[name])
		}
	}
}

// numbered are so many names, all unlike.
func numbered(n int) []string {
	var out []string
	for i := range n {
		out = append(out, "a"+string(small[i]))
	}
	return out
}

// P4.1, P4.2: the chapter's examples.
func TestExamples(t *testing.T) {
	const text = "x86_64>i686:i586>i386"
	scores(t, text, map[string]int{"noarch": 1, "x86_64": 2, "i686": 3, "i586": 3, "i386": 4, "ppc": 0})
	x := parse(t, text)
	better(t, x, "i686", "i586", 0)
	better(t, x, "noarch", "x86_64", -1)
	better(t, x, "ppc", "i386", 1)
	for _, s := range []string{"", "a>a", "a>", "noarch", "A"} {
		refuses(t, s)
	}
}

// P4.1: noarch has 1, the first name 2; > is one more, : as many.
func TestScores(t *testing.T) {
	for text, want := range map[string]map[string]int{
		"a":               {"a": 2},
		"0":               {"0": 2},
		"_":               {"_": 2},
		"a:b":             {"a": 2, "b": 2},
		"b:a":             {"a": 2, "b": 2},
		"a>b":             {"a": 2, "b": 3},
		"b>a":             {"a": 3, "b": 2},
		"a:b:c":           {"a": 2, "b": 2, "c": 2},
		"a:b>c":           {"a": 2, "b": 2, "c": 3},
		"a>b:c":           {"a": 2, "b": 3, "c": 3},
		"a>b>c":           {"a": 2, "b": 3, "c": 4},
		"a>b:c>d:e:f>g":   {"a": 2, "b": 3, "c": 3, "d": 4, "e": 4, "f": 4, "g": 5},
		"a>aa:aaa>aaaa":   {"a": 2, "aa": 3, "aaa": 3, "aaaa": 4},
		"noarc>noarch2":   {"noarc": 2, "noarch2": 3},
		"noarch_:xnoarch": {"noarch_": 2, "xnoarch": 2},
		"no:arch":         {"no": 2, "arch": 2},
		"1>2:3":           {"1": 2, "2": 3, "3": 3},
	} {
		scores(t, text, want)
	}
}

// P4.1: no name, or two alike, or noarch, wherever they stand; or another byte between.
func TestRefused(t *testing.T) {
	for _, text := range []string{
		"", ">", ":", ">>", "::", ">:", "a>", "a:", ">a", ":a", "a>>b", "a::b", "a>:b", "a:>b", "a>b>", "a>b:", ":a>b", ">a:b",
		"a>a", "a:a", "a>b>a", "a:b:a", "a>b:a", "a:b>a", "a>b:b", "b>a>a", "a>b>c>d>c", "aa>a>aa",
		"noarch", "noarch>a", "noarch:a", "a>noarch", "a:noarch", "a>noarch>b", "a:b:noarch", "noarch>noarch",
		"A", "a>A", "X86_64", "a b", "a> b", "a >b", " a", "a ", "a\n", "\na", "a\x00", "a,b", "a;b", "a<b", "a=b", "a-b", "a.b", "a/b", "a|b",
		"x86-64", "é", "a>é", "a\xff", "\xc3>\xa9", "ａ", "１", "a：b", "a＞b",
	} {
		refuses(t, text)
	}
}

// P4.1, R7: of all bytes just those that are named may be, and just > and : stand between.
func TestBytes(t *testing.T) {
	for n := range 256 {
		c := string([]byte{byte(n)})
		may := strings.Contains(small, c)
		for _, text := range []string{c, "x" + c, c + "x", "ab>ac" + c, "ab:" + c + "ac"} {
			if may {
				parse(t, text)
			} else {
				refuses(t, text)
			}
		}
		if may || c == ">" || c == ":" {
			parse(t, "ab"+c+"ac")
		} else {
			refuses(t, "ab"+c+"ac")
		}
	}
}

// P4.1: MaxArches at its edge, whatever stands between.
func TestMaxArches(t *testing.T) {
	for _, between := range []string{">", ":"} {
		for _, n := range []int{1, 2, 15, 16} {
			want, step := map[string]int{}, strings.Count(between, ">")
			for i, name := range numbered(n) {
				want[name] = 2 + i*step
			}
			scores(t, strings.Join(numbered(n), between), want)
		}
		for _, n := range []int{17, 18, 32, 33} {
			refuses(t, strings.Join(numbered(n), between))
		}
		refuses(t, strings.Join(numbered(16), between)+between)
		refuses(t, strings.Repeat("a"+between, 100000))
		refuses(t, strings.Repeat(between, 100000))
	}
	half := strings.Join(numbered(16)[:8], ">") + ":" + strings.Join(numbered(16)[8:], ":")
	parse(t, half)
	refuses(t, half+">z")
	refuses(t, half+":z")
	refuses(t, half+":a0>noarch")
}

// P4.1: twenty bytes of a name at their edge, wherever it stands.
func TestMaxBytes(t *testing.T) {
	for _, c := range []string{"a", "z", "0", "9", "_"} {
		long := strings.Repeat(c, 20)
		scores(t, long, map[string]int{long: 2, long[1:]: 0, long + c: 0})
		scores(t, "x>"+long, map[string]int{"x": 2, long: 3})
		scores(t, long+":x", map[string]int{"x": 2, long: 2})
		for _, text := range []string{long + c, long + c + ">x", "x>" + long + c, "x:" + long + c + ":y", strings.Repeat(c, 100000)} {
			refuses(t, text)
		}
	}
	var names []string
	for _, name := range numbered(16) {
		names = append(names, strings.Repeat("b", 18)+name)
	}
	parse(t, strings.Join(names, ">"))
	names[15] += "b"
	refuses(t, strings.Join(names, ">"))
}

// wanted is what P4.1 says of a text, word by word; nil: it is no table.
func wanted(text string) map[string]int {
	out := map[string]int{"noarch": 1}
	score := 2
	for i, group := range strings.Split(text, ">") {
		for _, name := range strings.Split(group, ":") {
			if name == "" || len(name) > 20 || strings.Trim(name, small) != "" || out[name] != 0 {
				return nil
			}
			out[name] = score + i
		}
	}
	if len(out) > 17 {
		return nil
	}
	return out
}

// P4.1: of many texts, beside the promise as it is told.
func TestMany(t *testing.T) {
	r := rand.New(rand.NewSource(4))
	tables := 0
	for range 20000 {
		b := make([]byte, r.Intn(12))
		for i := range b {
			b[i] = "abcde0_>:>:>:A "[r.Intn(13+r.Intn(3))]
		}
		want := wanted(string(b))
		if want == nil {
			refuses(t, string(b))
			continue
		}
		tables++
		scores(t, string(b), want)
	}
	if tables < 500 {
		t.Errorf("too few tables: %d", tables)
	}
}

// R3, R5: a table hangs on nothing but its text; what is refused changes none.
func TestTablesApart(t *testing.T) {
	x := parse(t, "a>b")
	y := parse(t, "b>c:a")
	refuses(t, "c>a>b>")
	for range 3 {
		for _, c := range []struct {
			x    *arch.Table
			name string
			want int
		}{{x, "a", 2}, {x, "b", 3}, {x, "c", 0}, {y, "a", 3}, {y, "b", 2}, {y, "c", 3}, {x, "noarch", 1}, {y, "noarch", 1}} {
			if n := c.x.Score(c.name); n != c.want {
				t.Errorf("Score %s: %d, not %d", c.name, n, c.want)
			}
		}
		better(t, x, "a", "b", -1)
		better(t, y, "a", "b", 1)
		better(t, x, "c", "a", 1)
		better(t, y, "c", "a", 0)
	}
	if a, b := parse(t, "a"), parse(t, "a"); a == b {
		t.Error("two answers are one table")
	}
}

// R4: of the text nothing is kept: a table has its names when the text's memory is used anew.
func TestTextIsNotKept(t *testing.T) {
	b := []byte("first>second:third")
	text := unsafe.String(&b[0], len(b))
	x := parse(t, text)
	if text != "first>second:third" {
		t.Errorf("the text was changed: %q", text)
	}
	copy(b, "other>others:forth")
	for name, want := range map[string]int{"first": 2, "second": 3, "third": 3, "other": 0, "others": 0, "forth": 0} {
		if n := x.Score(name); n != want {
			t.Errorf("Score %s: %d, not %d", name, n, want)
		}
	}
}

// R1: a nil table has no scores.
func TestNil(t *testing.T) {
	var x *arch.Table
	names := append(others(), "noarch", "a", "x86_64")
	for _, a := range names {
		if n := x.Score(a); n != 0 {
			t.Errorf("Score %q: %d", a, n)
		}
		for _, b := range names {
			better(t, x, a, b, 0)
		}
	}
}

// Section Errors of the chapter: the error's number, as the call answers it.
func TestErrors(t *testing.T) {
	_, fine := arch.Parse("a")
	_, form := arch.Parse("")
	if int(fine) != 0 || int(form) != 40 {
		t.Errorf("errors: %d, %d", int(fine), int(form))
	}
}

// better asks both ways round (P4.3).
func better(t *testing.T, x *arch.Table, a, b string, want int) {
	t.Helper()
	if n := x.Better(a, b); n != want {
		t.Errorf("Better %q %q: %d, not %d", a, b, n, want)
	}
	if n := x.Better(b, a); n != -want {
		t.Errorf("Better %q %q: %d, not %d", b, a, n, -want)
	}
}

// P4.2: of what has scores the lesser one is better, and what has none is worse than all that has one.
func TestBetter(t *testing.T) {
	x := parse(t, "a>b:c>d")
	for _, c := range []struct {
		a, b string
		want int
	}{
		{"noarch", "a", -1}, {"noarch", "b", -1}, {"noarch", "d", -1}, {"a", "b", -1}, {"a", "c", -1}, {"a", "d", -1}, {"b", "d", -1}, {"c", "d", -1},
		{"b", "c", 0}, {"noarch", "noarch", 0}, {"a", "a", 0}, {"d", "d", 0},
		{"noarch", "e", -1}, {"a", "e", -1}, {"d", "e", -1}, {"e", "f", 0}, {"e", "e", 0}, {"", "", 0}, {"", "d", 1}, {"", "e", 0}, {"A", "a", 1}, {"a>b", "d", 1},
	} {
		better(t, x, c.a, c.b, c.want)
	}
}

// P4.2, P4.3: of all that stands in tables, and does not, Better is the order that their groups are written in.
func TestOrder(t *testing.T) {
	for _, text := range []string{
		"a", "a:b", "a>b", "c>b>a", "x86_64>i686:i586>i386", "d:c>b>a:e", strings.Join(numbered(16), ">"), strings.Join(numbered(16), ":"),
	} {
		x := parse(t, text)
		groups := [][]string{{"noarch"}}
		for _, group := range strings.Split(text, ">") {
			groups = append(groups, strings.Split(group, ":"))
		}
		groups = append(groups, others())
		for i, group := range groups {
			for j, other := range groups {
				for _, a := range group {
					for _, b := range other {
						better(t, x, a, b, sign(i-j))
					}
				}
			}
		}
		sorted(t, x, slices.Concat(groups...))
	}
}

func sign(n int) int {
	return min(1, max(-1, n))
}

// sorted: P4.3: names that are mixed are sorted by Better into what is in order from each one to each further one.
func sorted(t *testing.T, x *arch.Table, names []string) {
	t.Helper()
	rand.New(rand.NewSource(1)).Shuffle(len(names), func(i, j int) { names[i], names[j] = names[j], names[i] })
	slices.SortFunc(names, x.Better)
	for i, a := range names {
		for _, b := range names[i:] {
			if x.Better(a, b) > 0 || x.Score(a) == 0 && x.Score(b) != 0 {
				t.Errorf("%q stands ahead of %q", a, b)
			}
		}
	}
}
