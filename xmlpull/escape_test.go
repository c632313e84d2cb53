package xmlpull_test

import (
	"math/rand"
	"strconv"
	"strings"
	"testing"

	"chandler/api"
	"chandler/xmlpull"
)

func escapes(t *testing.T, s, want string) {
	t.Helper()
	if e := xmlpull.Escape(s); e != want {
		t.Errorf("%q: %q, not %q", cut(s), cut(e), cut(want))
	}
}

// P10.5, R6: five bytes, those below 32, and all others.
func TestEscape(t *testing.T) {
	named := map[string]string{"&": "&amp;", "<": "&lt;", ">": "&gt;", `"`: "&quot;", "'": "&apos;"}
	for n := range 256 {
		c := string([]byte{byte(n)})
		want := c
		if n < 32 {
			want = "&#" + strconv.Itoa(n) + ";"
		} else if e, is := named[c]; is {
			want = e
		}
		escapes(t, c, want)
		escapes(t, "x"+c+c+"y", "x"+want+want+"y")
	}
	escapes(t, "", "")
	escapes(t, "&amp;", "&amp;amp;")
	escapes(t, "<a x=\"1\">'\n\t\x00é\xff\x7f", "&lt;a x=&quot;1&quot;&gt;&apos;&#10;&#9;&#0;é\xff\x7f")
	escapes(t, "a<&\n'", "a&lt;&amp;&#10;&apos;")
	escapes(t, strings.Repeat("<", 100000), strings.Repeat("&lt;", 100000))
	escapes(t, strings.Repeat("a", 100000), strings.Repeat("a", 100000))
}

// standsAs asks for what is escaped, as a value and between two tags.
func standsAs(t *testing.T, s string) {
	t.Helper()
	e := xmlpull.Escape(s)
	if s == "" {
		reads(t, "<a>"+e+"</a>", within()...)
	} else {
		reads(t, "<a>"+e+"</a>", within(words(s))...)
	}
	reads(t, `<a x="`+e+`" y='`+e+`'/>`, start("a", "x", s, "y", s), end("a"))
}

// P10.6: what is escaped stands for the text.
func TestEscapeBack(t *testing.T) {
	all := ""
	for n := range 256 {
		if stands(n) {
			all += string([]byte{byte(n)})
			standsAs(t, string([]byte{byte(n)}))
		}
	}
	for _, s := range []string{"", all, all + all, "\r\n", " ", "&lt;", "&#65;", "]]>", "<![CDATA[x]]>", "<!-- x -->", "<?x?>", "</a>", "\"'", "&", "\xff\xfe", "é😀"} {
		standsAs(t, s)
	}
	r := rand.New(rand.NewSource(10))
	const some = "<>&\"';#x]-!?/ \n"
	for range 3000 {
		b := make([]byte, r.Intn(40))
		for i := range b {
			b[i] = all[r.Intn(len(all))]
			if r.Intn(2) == 0 {
				b[i] = some[r.Intn(len(some))]
			}
		}
		standsAs(t, string(b))
	}
}

// P10.6: other bytes below 32 are written, but stand for nothing.
func TestEscapeNotBack(t *testing.T) {
	for n := range 32 {
		if !stands(n) {
			refuses(t, "<a>"+xmlpull.Escape(string([]byte{byte(n)}))+"</a>", api.ErrXmlEntity, start("a"))
		}
	}
}
