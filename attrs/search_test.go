package attrs_test

import (
	"math"
	"slices"
	"strings"
	"testing"
	"time"

	"chandler/api"
	"chandler/attrs"
)

func fits(t *testing.T, how int, pattern, text string, want bool) {
	t.Helper()
	if is := attrs.Fits(how, pattern, text); is != want {
		t.Errorf("Fits %d %q of %q: %v", how, pattern, text, is)
	}
}

func finds(t *testing.T, s *attrs.Store, key string, how int, text string, want ...int) {
	t.Helper()
	if l, e := s.Search(key, how, text); e != api.OK || !slices.Equal(l, want) {
		t.Errorf("Search %q %d %q: %v, %v, not %v", key, how, text, l, e, want)
	}
}

func refuseSearch(t *testing.T, s *attrs.Store, key string, how int, text string, want api.Errno) {
	t.Helper()
	if l, e := s.Search(key, how, text); e != want || len(l) > 0 {
		t.Errorf("Search %q %d %q: %v, %v, not %v", key, how, text, l, e, want)
	}
}

// noHows are none of the ways in which a text is looked for.
func noHows() []int {
	return []int{0, 5, 6, 9, -1, -4, math.MinInt, math.MaxInt, 1<<32 + 1, 1<<32 + 4}
}

// P8.3: Exact, Prefix and Within, in which no byte stands for others; and what is no how.
func TestFits(t *testing.T) {
	for _, c := range []struct {
		pattern, text         string
		exact, prefix, within bool
	}{
		{"", "", true, true, true},
		{"", "x", false, true, true},
		{"x", "", false, false, false},
		{"abc", "abc", true, true, true},
		{"abc", "abcd", false, true, true},
		{"abc", "xabc", false, false, true},
		{"abc", "xabcx", false, false, true},
		{"abc", "ab", false, false, false},
		{"abc", "aabbcc", false, false, false},
		{"abc", "ABC", false, false, false},
		{"aab", "aaaab", false, false, true},
		{"*", "x", false, false, false},
		{"*", "*", true, true, true},
		{"a?", "ab", false, false, false},
		{"a?", "xa?x", false, false, true},
		{"\xff", "\xff\xff", false, true, true},
		{"\xa9", "é", false, false, true},
		{"\x00", "a\x00", false, false, true},
		{"é", "e\u0301", false, false, false},
	} {
		fits(t, api.Exact, c.pattern, c.text, c.exact)
		fits(t, api.Prefix, c.pattern, c.text, c.prefix)
		fits(t, api.Within, c.pattern, c.text, c.within)
		for _, how := range noHows() {
			fits(t, how, c.pattern, c.text, false)
		}
	}
}

// P8.3: globs fit as a whole; a `*` fits any bytes, also none, a `?` one byte, and any other byte itself.
func TestGlob(t *testing.T) {
	for pattern, texts := range map[string]struct{ fit, not []string }{
		"":          {[]string{""}, []string{"a", " ", "\x00"}},
		"a":         {[]string{"a"}, []string{"", "b", "aa", "A", "ba", "ab"}},
		"abc":       {[]string{"abc"}, []string{"ab", "abcd", "xabc", "aBc"}},
		"*":         {[]string{"", "a", "*", "a/b", "\x00\xff", strings.Repeat("x", 1000)}, nil},
		"**":        {[]string{"", "a", "ab", "abc"}, nil},
		"?":         {[]string{"a", "*", "?", "\x00", "\xff", "/", "\n"}, []string{"", "ab", "é", "ééé"}},
		"??":        {[]string{"ab", "é", "\xff\x00"}, []string{"", "a", "abc"}},
		"?*":        {[]string{"a", "ab", "abc"}, []string{""}},
		"*?":        {[]string{"a", "ab", "abc"}, []string{""}},
		"*?*?*":     {[]string{"ab", "abc", "abcd"}, []string{"", "a"}},
		"a*":        {[]string{"a", "ab", "a*", "aa"}, []string{"", "b", "ba", "A"}},
		"*a":        {[]string{"a", "ba", "aa", "aba"}, []string{"", "ab", "b", "A"}},
		"a*a":       {[]string{"aa", "aba", "aaa", "abaXa"}, []string{"a", "ab", "ba", "aab", "baa"}},
		"*a*":       {[]string{"a", "ba", "ab", "bab"}, []string{"", "b", "bb"}},
		"ab*ba":     {[]string{"abba", "abXba", "ababba"}, []string{"aba", "ab", "ba", "abb"}},
		"a?":        {[]string{"ab", "a?", "aa"}, []string{"a", "abc", "ba", ""}},
		"?a":        {[]string{"ba", "aa"}, []string{"a", "ab", "bba"}},
		"a?c":       {[]string{"abc", "a?c", "acc"}, []string{"ac", "abbc", "abd"}},
		"a*b*c":     {[]string{"abc", "aXbYbc", "abbcc", "abcbc", "aXbYc"}, []string{"acb", "ab", "ac", "abcd", "xabc", "aXbYcZ"}},
		"*ab*ab*":   {[]string{"abab", "aabxab", "xabxabx", "ababab"}, []string{"ab", "aba", "abba", "baba"}},
		"*a?b":      {[]string{"aab", "axb", "aaab", "aaxb", "axbaxb", "aabb"}, []string{"ab", "axxb", "abab"}},
		"*a?b*":     {[]string{"aab", "aaab", "aabb", "xaxbx", "aabab"}, []string{"ab", "abab", "axx"}},
		"*?b*?b":    {[]string{"abab", "bbbb", "xabxb", "abxxb"}, []string{"abb", "bbb", "abaa", "b"}},
		"*aab":      {[]string{"aab", "aaab", "aaaab"}, []string{"ab", "aaba"}},
		"*aab*c":    {[]string{"aaabc", "aabaabxc"}, []string{"aabx", "abc", "caab"}},
		"[ab]":      {[]string{"[ab]"}, []string{"a", "b"}},
		`\*`:        {[]string{`\`, `\x`, `\*`}, []string{"*", "x"}},
		`\?`:        {[]string{`\x`, `\?`}, []string{"?", `\`}},
		"{a,b}":     {[]string{"{a,b}"}, []string{"a", "b"}},
		"a.b+":      {[]string{"a.b+"}, []string{"axb", "axbb"}},
		"*.rpm":     {[]string{".rpm", "a.rpm", "a.b.rpm", "a.rpm.rpm", "/x/a.rpm"}, []string{"rpm", "a.rpm ", "axrpm"}},
		"lib*-1.?":  {[]string{"lib-1.0", "libz-1.2", "lib-1.0-1.1"}, []string{"lib-1.", "libz-1.10", "xlib-1.0", "libz-2.0"}},
		"\xff*\x00": {[]string{"\xff\x00", "\xff\xff\x00\x00"}, []string{"\xff", "\x00", "\xfe\x00"}},
		"é?":        {[]string{"éa"}, []string{"éé", "é", "ea"}},
	} {
		for _, x := range texts.fit {
			fits(t, api.Glob, pattern, x, true)
		}
		for _, x := range texts.not {
			fits(t, api.Glob, pattern, x, false)
		}
	}
}

// P8.3, R7: each byte fits itself, and no other one.
func TestGlobBytes(t *testing.T) {
	for n := range 256 {
		for m := range 256 {
			a, b := string([]byte{byte(n)}), string([]byte{byte(m)})
			want := n == m || n == '*' || n == '?'
			fits(t, api.Glob, a, b, want)
			fits(t, api.Glob, "x*"+a, "xyz"+b, want)
		}
	}
}

// fitsGlob is the promise's words, letter by letter: what a pattern's first byte may fit, and the rest behind it.
func fitsGlob(pattern, text string) bool {
	if pattern == "" {
		return text == ""
	}
	if pattern[0] == '*' {
		return fitsGlob(pattern[1:], text) || text != "" && fitsGlob(pattern, text[1:])
	}
	return text != "" && (pattern[0] == '?' || pattern[0] == text[0]) && fitsGlob(pattern[1:], text[1:])
}

// words are all texts of some bytes, up to a length.
func words(bytes string, length int) []string {
	out := []string{""}
	for from := 0; length > 0; length-- {
		to := len(out)
		for _, w := range out[from:to] {
			for i := range len(bytes) {
				out = append(out, w+bytes[i:i+1])
			}
		}
		from = to
	}
	return out
}

// P8.3: all short patterns, and all short texts, beside the promise's words.
func TestGlobAll(t *testing.T) {
	texts := words("ab", 6)
	for _, pattern := range words("ab*?", 6) {
		for _, x := range texts {
			if is, want := attrs.Fits(api.Glob, pattern, x), fitsGlob(pattern, x); is != want {
				t.Fatalf("Fits Glob %q of %q: %v", pattern, x, is)
			}
		}
	}
}

// R1: long patterns with many stars end soon, too.
func TestGlobEnds(t *testing.T) {
	began := time.Now()
	x := strings.Repeat("a", 200)
	fits(t, api.Glob, strings.Repeat("*a", 100)+"*b", x, false)
	fits(t, api.Glob, strings.Repeat("a*", 100)+"b*", x, false)
	fits(t, api.Glob, strings.Repeat("*?a", 66)+"*b*", x, false)
	fits(t, api.Glob, strings.Repeat("*", 100000), x, true)
	fits(t, api.Glob, strings.Repeat("?", 200), x, true)
	fits(t, api.Glob, strings.Repeat("?*", 201), x, false)
	fits(t, api.Glob, strings.Repeat("*a", 100), strings.Repeat("a", 100000), true)
	fits(t, api.Glob, "*"+strings.Repeat("a", 5000)+"b*", strings.Repeat("a", 20000), false)
	if d := time.Since(began); d > 20*time.Second {
		t.Errorf("the globs took %v", d)
	}
}

// P8.3: of a number its decimal digits.
func TestSearchNumbers(t *testing.T) {
	s := attrs.New()
	for id, n := range []int{0, 10, -10, 100, 7, math.MaxInt, math.MinInt, 1010} {
		set(t, s, 20-id, "n", num(n))
	}
	finds(t, s, "n", api.Exact, "10", 19)
	finds(t, s, "n", api.Exact, "-10", 18)
	finds(t, s, "n", api.Exact, "+10")
	finds(t, s, "n", api.Exact, "010")
	finds(t, s, "n", api.Exact, "0", 20)
	finds(t, s, "n", api.Exact, "-0")
	finds(t, s, "n", api.Exact, "")
	finds(t, s, "n", api.Exact, "9223372036854775807", 15)
	finds(t, s, "n", api.Exact, "-9223372036854775808", 14)
	finds(t, s, "n", api.Prefix, "10", 13, 17, 19)
	finds(t, s, "n", api.Prefix, "-", 14, 18)
	finds(t, s, "n", api.Within, "10", 13, 17, 18, 19)
	finds(t, s, "n", api.Glob, "?", 16, 20)
	finds(t, s, "n", api.Glob, "*0", 13, 17, 18, 19, 20)
	finds(t, s, "n", api.Glob, "*", 13, 14, 15, 16, 17, 18, 19, 20)
}

// P8.3: of a text the text, of a list one of its texts; packages without a value under the key have none that fits.
func TestSearch(t *testing.T) {
	s := attrs.New()
	for id, x := range []string{"lib", "libz", "zlib", "", "l*b", "LIB", "\xfflib"} {
		set(t, s, 9-id, "text", text(x))
	}
	set(t, s, 30, "list", list())
	set(t, s, 3, "list", list("lib", "x"))
	set(t, s, 20, "list", list("x", "y", "libz", "lib"))
	set(t, s, 10, "list", list("", "zlib"))
	set(t, s, 1, "other", text("lib"))
	for how, want := range map[int]struct{ texts, lists []int }{
		api.Exact:  {[]int{9}, []int{3, 20}},
		api.Prefix: {[]int{8, 9}, []int{3, 20}},
		api.Within: {[]int{3, 7, 8, 9}, []int{3, 10, 20}},
		api.Glob:   {[]int{9}, []int{3, 20}},
	} {
		finds(t, s, "text", how, "lib", want.texts...)
		finds(t, s, "list", how, "lib", want.lists...)
	}
	finds(t, s, "text", api.Glob, "l*b", 5, 9)
	finds(t, s, "text", api.Exact, "l*b", 5)
	finds(t, s, "text", api.Glob, "", 6)
	finds(t, s, "text", api.Exact, "", 6)
	finds(t, s, "text", api.Prefix, "", 3, 4, 5, 6, 7, 8, 9)
	finds(t, s, "text", api.Within, "", 3, 4, 5, 6, 7, 8, 9)
	finds(t, s, "list", api.Exact, "", 10)
	finds(t, s, "list", api.Within, "", 3, 10, 20)
	finds(t, s, "list", api.Glob, "*", 3, 10, 20)
	finds(t, s, "list", api.Glob, "?", 3, 20)
	finds(t, s, "list", api.Glob, "x*lib")
	finds(t, s, "list", api.Exact, "libx")
	finds(t, s, "text", api.Exact, strings.Repeat("x", 100000))
	finds(t, s, "other", api.Exact, "lib", 1)
}

// P8.3: a how that is none goes ahead of a key that is none; a key without values is one.
func TestSearchRefused(t *testing.T) {
	s := attrs.New()
	set(t, s, 1, "a", text("x"))
	unset(t, s, 1, "a")
	refuse(t, s, 1, "b", api.Value{}, api.ErrAttrsKind)
	for _, key := range []string{"a", "b", "", "B"} {
		for _, how := range noHows() {
			refuseSearch(t, s, key, how, "x", api.ErrArg)
		}
	}
	for _, how := range []int{api.Exact, api.Prefix, api.Within, api.Glob} {
		finds(t, s, "a", how, "x")
		finds(t, s, "a", how, "")
		for _, key := range []string{"b", "", "B", "a ", strings.Repeat("k", 1000)} {
			refuseSearch(t, s, key, how, "x", api.ErrAttrsNone)
		}
	}
	keys(t, s, "a")
}

// P8.3: what is found is what is there then: not what was set anew, or was taken away.
func TestSearchNow(t *testing.T) {
	s := attrs.New()
	set(t, s, 1, "a", text("x"))
	set(t, s, 2, "a", text("x"))
	finds(t, s, "a", api.Exact, "x", 1, 2)
	set(t, s, 1, "a", text("y"))
	finds(t, s, "a", api.Exact, "x", 2)
	finds(t, s, "a", api.Exact, "y", 1)
	unset(t, s, 2, "a")
	finds(t, s, "a", api.Exact, "x")
	set(t, s, 0, "a", text("y"))
	finds(t, s, "a", api.Exact, "y", 0, 1)
}
