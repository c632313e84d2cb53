package evr_test

import (
	"math/big"
	"math/rand"
	"slices"
	"strings"
	"testing"

	"chandler/api"
	"chandler/evr"
)

// compares asks both ways round (P3.6).
func compares(t *testing.T, kind int, a, b string, want int) {
	t.Helper()
	if n, e := evr.Compare(kind, a, b); n != want || e != api.OK {
		t.Errorf("Compare %d %q %q: %d, %v, not %d", kind, a, b, n, e, want)
	}
	if n, e := evr.Compare(kind, b, a); n != -want || e != api.OK {
		t.Errorf("Compare %d %q %q: %d, %v, not %d", kind, b, a, n, e, -want)
	}
}

type pair struct {
	a, b string
	want int
}

func comparesAll(t *testing.T, kind int, all []pair) {
	t.Helper()
	for _, c := range all {
		compares(t, kind, c.a, c.b, c.want)
	}
}

// P3.2 to P3.4: the chapter's examples.
func TestCompareExamples(t *testing.T) {
	comparesAll(t, api.Rpm, []pair{
		{"1.0", "1.0.1", -1}, {"1.10", "1.9", 1}, {"1.0~rc1", "1.0", -1}, {"1.0^a", "1.0", 1},
		{"1a", "1.0", -1}, {"1:0.1", "9", 1}, {"1.0-1", "1.0", 1}, {"01", "1", 0},
	})
	comparesAll(t, api.Deb, []pair{
		{"1.0-1", "1.0", 1}, {"1.0~rc1", "1.0", -1}, {"1.0+b", "1.0a", 1}, {"1.0a", "1.0", 1}, {"1.0-0", "1.0", 0},
	})
}

// P3.2: the Epochs as numbers, then the Versions, then the Releases, of both kinds.
func TestCompareParts(t *testing.T) {
	for _, kind := range []int{api.Rpm, api.Deb} {
		comparesAll(t, kind, []pair{
			{"1", "1", 0}, {"1", "2", -1}, {"0:1", "1", 0}, {"000:1", "1", 0}, {"000000000:1", "0:1", 0},
			{"1:1", "1", 1}, {"2:1", "10:1", -1}, {"02:1", "2:1", 0}, {"9:1", "010:1", -1}, {"999999999:1", "1000:1", 1},
			{"1:0", "999", 1}, {"1:1-1", "2:0-0", -1}, {"0:2-1", "1-9", 1}, {"1-2", "1-10", -1}, {"1-02", "1-2", 0},
			{"2-1", "1-2", 1}, {"1:1-1", "1:1-2", -1}, {"1-1-9", "1-2-0", -1}, {"1:2-3", "1:2-3", 0},
		})
	}
}

// P3.2: an empty Release is less than any other one of Rpm, and the text 0 of Deb.
func TestCompareNoRelease(t *testing.T) {
	for _, release := range []string{"0", "1", "a", "~", "~1", "^", ".", "_", "+", "00"} {
		compares(t, api.Rpm, "1.0", "1.0-"+release, -1)
	}
	comparesAll(t, api.Rpm, []pair{{"1.0", "1.0", 0}, {"1:1", "1:1", 0}, {"2", "1-1", 1}, {"1-~", "1-.", -1}})
	comparesAll(t, api.Deb, []pair{
		{"1.0", "1.0-0", 0}, {"1.0", "1.0-00", 0}, {"1.0", "1.0-~", 1}, {"1.0", "1.0-~1", 1}, {"1.0", "1.0-1", -1},
		{"1.0", "1.0-a", -1}, {"1.0", "1.0-^", -1}, {"1.0", "1.0-.", -1}, {"1.0", "1.0-0a", -1}, {"1.0", "1.0-0~", 1}, {"1.0", "1.0", 0},
	})
}

// P3.3: what is left out, `~`, `^`, digits and letters, as the promise tells them.
func TestCompareRpm(t *testing.T) {
	comparesAll(t, api.Rpm, []pair{
		{"1.0", "1_0", 0}, {"1.0", "1..0", 0}, {"1.0", "1.+_-0-1", -1}, {".1", "1", 0}, {"1.", "1", 0}, {".", "_", 0}, {"a.b", "ab", -1},
		{"1.0", "10", -1}, {"1a1", "1.a.1", 0}, {"a1", "a.1", 0}, {"1-a-1", "1.a-1", 0},
		{"1~", "1", -1}, {"1~~", "1~", -1}, {"1~a", "1~b", -1}, {"1~a", "1~a", 0}, {"1~", "1.", -1}, {"1.~a", "1~a", 0}, {"1~.", "1~", 0},
		{"1~", "1^", -1}, {"1~", "1a", -1}, {"1~", "1.0", -1}, {"~", ".", -1}, {"1~^", "1~", 1}, {"1^~", "1^", -1}, {"1^~", "1", 1},
		{"1^", "1", 1}, {"1^", "1.", 1}, {"1.^", "1^", 0}, {"1^", "1a", -1}, {"1^", "1.0", -1}, {"1^^", "1^", 1}, {"1^^", "1^a", -1},
		{"1^a", "1^b", -1}, {"1^2", "1^10", -1}, {"1^a", "1^a", 0}, {"^", "~", 1}, {"^", ".", 1},
		{"1a", "1", 1}, {"1.0", "1", 1}, {"a", "1", -1}, {"1.a", "1.1", -1}, {"1a", "1.1", -1}, {"a", "A", 1}, {"Z", "a", -1},
		{"ab", "abc", -1}, {"abd", "abc", 1}, {"b", "aa", 1}, {"1ab2", "1ab10", -1},
		{"001", "1", 0}, {"0", "00", 0}, {"0", "1", -1}, {"10", "9", 1}, {"1.010", "1.10", 0},
	})
}

// P3.4: byte by byte what is no digit, then numbers, as the promise tells them.
func TestCompareDeb(t *testing.T) {
	comparesAll(t, api.Deb, []pair{
		{"1~", "1", -1}, {"1~~", "1~", -1}, {"1~~a", "1~", -1}, {"1~a", "1~", 1}, {"1~", "10", -1}, {"~", "a", -1}, {"~", "+", -1}, {"~1", "0", -1},
		{"1a", "1", 1}, {"1a", "11", -1}, {"1a", "1b", -1}, {"1Z", "1a", -1}, {"1z", "1+", -1}, {"1z", "1.", -1}, {"1A", "1z", -1},
		{"1+", "1", 1}, {"1+", "1.", -1}, {"1.", "1^", -1}, {"1^", "1_", -1}, {"1_", "1z", 1}, {"1+", "1--1", -1}, {"1-a-1", "1.a-1", -1},
		{"1.0", "1.", 0}, {"1.0", "1", 1}, {"1", "01", 0}, {"0", "00", 0}, {"a", "a0", 0}, {"a0b", "ab", -1}, {"a", "a1", -1}, {"a0", "a00", 0},
		{"1.10", "1.9", 1}, {"1.09", "1.9", 0}, {"1.2.3", "1.2.10", -1}, {"1.a", "1.1", 1}, {"a.1", "a1", 1}, {"ab", "a1", 1}, {"1^", "1", 1},
		{"1a2", "1a10", -1}, {"1ab", "1a1", 1}, {"1a~", "1a", -1}, {"1.0.0", "1.0.", 0},
	})
}

// P3.3, P3.4: numbers that no int holds, up to all of MaxEvr.
func TestCompareLong(t *testing.T) {
	nines, one := strings.Repeat("9", 59), "1"+strings.Repeat("0", 59)
	zeros := strings.Repeat("0", 59)
	for _, kind := range []int{api.Rpm, api.Deb} {
		comparesAll(t, kind, []pair{
			{nines, one, -1}, {"0" + nines, one, -1}, {zeros + "1", "1", 0}, {zeros + "1", "2", -1}, {zeros + "0", "0", 0},
			{"18446744073709551616", "0", 1}, {"18446744073709551616", "18446744073709551617", -1}, {"9223372036854775808", "9223372036854775807", 1},
			{"4294967296", "1", 1}, {nines[:30] + "8", nines[:31], -1}, {"a" + nines, "a" + one[:59], 1},
			{"1-" + nines[:58], "1-1" + zeros[:57], 1}, {strings.Repeat("1a", 30), strings.Repeat("1a", 29) + "1b", -1},
		})
	}
	compares(t, api.Rpm, strings.Repeat("~", 60), strings.Repeat("~", 59), -1)
	compares(t, api.Rpm, strings.Repeat("^", 60), strings.Repeat("^", 59), 1)
	compares(t, api.Rpm, strings.Repeat(".", 60), ".", 0)
	compares(t, api.Deb, strings.Repeat("~", 60), strings.Repeat("~", 59), -1)
	compares(t, api.Deb, strings.Repeat(".", 60), strings.Repeat(".", 59), 1)
}

// P3.2: a version that may not be, the first or the second, and zero beside the error.
func TestCompareRefused(t *testing.T) {
	for _, kind := range []int{api.Rpm, api.Deb} {
		for _, c := range [][2]string{{"2", ""}, {"", "2"}, {"2:1", "1:"}, {"a:1", "9"}, {"1", "2-"}, {"1", "2 "}, {":", "-"}} {
			if n, e := evr.Compare(kind, c[0], c[1]); n != 0 || e != api.ErrEvrForm {
				t.Errorf("Compare %d %q: %d, %v", kind, c, n, e)
			}
		}
	}
}

func order(t *testing.T, kind int, a, b string) int {
	t.Helper()
	n, e := evr.Compare(kind, a, b)
	if e != api.OK {
		t.Fatalf("Compare %d %q %q: %v", kind, a, b, e)
	}
	return n
}

// texts are all versions of one to most bytes out of some.
func texts(some string, most int) []string {
	var out []string
	last := []string{""}
	for range most {
		var next []string
		for _, s := range last {
			for i := range some {
				next = append(next, s+some[i:i+1])
			}
		}
		out, last = append(out, next...), next
	}
	return slices.DeleteFunc(out, func(s string) bool {
		_, e := evr.Parse(s)
		return e != api.OK
	})
}

// P3.6: each is equal to itself, the other way round has the other sign, and in sorted versions all agree that they are sorted, as it goes on through a third one.
func TestCompareIsAnOrder(t *testing.T) {
	for _, kind := range []int{api.Rpm, api.Deb} {
		for _, all := range [][]string{texts("01aB~^.", 3), texts("0a~.-", 4), texts("01a:-~", 4), texts("0~", 8)} {
			checkOrder(t, kind, all)
		}
	}
}

func checkOrder(t *testing.T, kind int, all []string) {
	t.Helper()
	slices.SortStableFunc(all, func(a, b string) int { return order(t, kind, a, b) })
	class := 0 // where those begin that are equal to the last one
	for i, a := range all {
		if order(t, kind, a, a) != 0 {
			t.Fatalf("kind %d: %q is not equal to itself", kind, a)
		}
		if i > 0 && order(t, kind, all[i-1], a) != 0 {
			class = i
		}
		for j, b := range all[:i] {
			want := 0
			if j < class {
				want = -1
			}
			if n, m := order(t, kind, b, a), order(t, kind, a, b); n != want || m != -want {
				t.Fatalf("kind %d: %q and %q: %d, the other way round %d, not %d", kind, b, a, n, m, want)
			}
		}
	}
}

// at is the byte of a text at a place, 0 at its end.
func at(text string, i int) byte {
	if i < len(text) {
		return text[i]
	}
	return 0
}

func among(c byte, some string) bool {
	return c != 0 && strings.IndexByte(some, c) >= 0
}

func sign(first bool) int {
	if first {
		return 1
	}
	return -1
}

// while is where bytes out of some, from a place on, end.
func while(text string, i int, some string) int {
	for among(at(text, i), some) {
		i++
	}
	return i
}

func number(digits string) *big.Int {
	n, _ := new(big.Int).SetString("0"+digits, 10)
	return n
}

const digits = "0123456789"

// slowRpm is P3.3, sentence by sentence.
func slowRpm(a, b string) int {
	i, j := 0, 0
	for i < len(a) || j < len(b) {
		i, j = while(a, i, "._+-"), while(b, j, "._+-")
		if at(a, i) == '~' || at(b, j) == '~' {
			if at(a, i) != '~' || at(b, j) != '~' {
				return sign(at(b, j) == '~')
			}
			i, j = i+1, j+1
			continue
		}
		if at(a, i) == '^' || at(b, j) == '^' {
			switch {
			case i == len(a):
				return -1
			case j == len(b):
				return 1
			case at(a, i) != '^':
				return 1
			case at(b, j) != '^':
				return -1
			}
			i, j = i+1, j+1
			continue
		}
		if i == len(a) || j == len(b) {
			break
		}
		some := letters
		if among(at(a, i), digits) {
			some = digits
		}
		n, m := while(a, i, some), while(b, j, some)
		if m == j {
			return sign(some == digits)
		}
		c := strings.Compare(a[i:n], b[j:m])
		if some == digits {
			c = number(a[i:n]).Cmp(number(b[j:m]))
		}
		if c != 0 {
			return c
		}
		i, j = n, m
	}
	if i == len(a) && j == len(b) {
		return 0
	}
	return sign(i < len(a))
}

// placeDeb is the place of a byte, 0 being the end, among the sorts that P3.4 names, the least first.
func placeDeb(c byte) int {
	switch {
	case c == '~':
		return 0
	case c == 0 || among(c, digits):
		return 1
	case among(c, letters):
		return 2
	}
	return 3
}

// slowDeb is P3.4, sentence by sentence.
func slowDeb(a, b string) int {
	i, j := 0, 0
	others := func(c byte) bool { return c != 0 && !among(c, digits) }
	for i < len(a) || j < len(b) {
		for others(at(a, i)) || others(at(b, j)) {
			p, q := placeDeb(at(a, i)), placeDeb(at(b, j))
			if p != q {
				return sign(p > q)
			}
			if at(a, i) != at(b, j) {
				return sign(at(a, i) > at(b, j))
			}
			i, j = i+1, j+1
		}
		n, m := while(a, i, digits), while(b, j, digits)
		if c := number(a[i:n]).Cmp(number(b[j:m])); c != 0 {
			return c
		}
		i, j = n, m
	}
	return 0
}

// slow is P3.2, of versions that may be.
func slow(kind int, a, b string) int {
	v, _ := evr.Parse(a)
	w, _ := evr.Parse(b)
	text := slowRpm
	if kind == api.Deb {
		text = slowDeb
	}
	if c := number(v.Epoch).Cmp(number(w.Epoch)); c != 0 {
		return c
	}
	if c := text(v.Version, w.Version); c != 0 {
		return c
	}
	r, s := v.Release, w.Release
	if kind == api.Deb {
		if r == "" {
			r = "0"
		}
		if s == "" {
			s = "0"
		}
	} else if r == "" || s == "" {
		if r == s {
			return 0
		}
		return sign(s == "")
	}
	return text(r, s)
}

// P3.2 to P3.4: of all short versions, as the promises' sentences tell it.
func TestCompareShort(t *testing.T) {
	for _, kind := range []int{api.Rpm, api.Deb} {
		for _, some := range []string{"01a~^.", "0aB+-~", "19z_^-", "01:-a~"} {
			all := texts(some, 3)
			for _, a := range all {
				for _, b := range all {
					if n, want := order(t, kind, a, b), slow(kind, a, b); n != want {
						t.Fatalf("Compare %d %q %q: %d, not %d", kind, a, b, n, want)
					}
				}
			}
		}
	}
}

// few is a version of pieces out of a few, so that two of them are often alike for long.
func few(r *rand.Rand) string {
	pieces := []string{"0", "1", "9", "10", "00", "01", "a", "b", "A", "rc", "~", "^", ".", "_", "+", "-", "."}
	for {
		var b strings.Builder
		if r.Intn(4) == 0 {
			b.WriteString([]string{"0:", "1:", "00:", "01:"}[r.Intn(4)])
		}
		for range 1 + r.Intn(9) {
			b.WriteString(pieces[r.Intn(len(pieces))])
		}
		if _, e := evr.Parse(b.String()); e == api.OK {
			return b.String()
		}
	}
}

// near is a version that is another one but for a byte, or is that one.
func near(a string, r *rand.Rand) string {
	i := r.Intn(len(a) + 1)
	b := a[:i] + []string{"", "0", "1", "a", "~", "^", ".", "-"}[r.Intn(8)] + a[min(i+r.Intn(2), len(a)):]
	if _, e := evr.Parse(b); e != api.OK {
		return a
	}
	return b
}

// P3.2 to P3.4, P3.6: of longer versions.
func TestCompareMany(t *testing.T) {
	r := rand.New(rand.NewSource(3))
	for range 60000 {
		a := few(r)
		b := near(a, r)
		if r.Intn(3) == 0 {
			b = few(r)
		}
		kind := 1 + r.Intn(2)
		compares(t, kind, a, b, slow(kind, a, b))
		compares(t, kind, a, a, 0)
	}
}
