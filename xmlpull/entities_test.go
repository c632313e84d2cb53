package xmlpull_test

import (
	"strconv"
	"strings"
	"testing"
	"unicode/utf8"

	"chandler/api"
)

// standsFor asks what entities stand for, in a run and in values.
func standsFor(t *testing.T, s, want string) {
	t.Helper()
	reads(t, "<a>"+s+"</a>", within(words(want))...)
	reads(t, "<a>x<!-- -->"+s+"y</a>", within(words("x"+want+"y"))...)
	for _, quote := range []string{`"`, `'`} {
		reads(t, "<a x="+quote+s+quote+"/>", start("a", "x", want), end("a"))
		reads(t, "<a x="+quote+"1"+s+"2"+quote+"/>", start("a", "x", "1"+want+"2"), end("a"))
	}
}

// noEntity asks for what is refused in a run, within and outside of all, and in values.
func noEntity(t *testing.T, s string) {
	t.Helper()
	refuses(t, "<a>"+s+"</a>", api.ErrXmlEntity, start("a"))
	refuses(t, "<a>x"+s, api.ErrXmlEntity, start("a"))
	refuses(t, s+"<a/>", api.ErrXmlEntity)
	refuses(t, "<a/> "+s, api.ErrXmlEntity, start("a"), end("a"))
	for _, quote := range []string{`"`, `'`} {
		refuses(t, "<a x="+quote+s+quote+"/>", api.ErrXmlEntity)
		refuses(t, "<a><b x="+quote+"1"+s, api.ErrXmlEntity, start("a"))
	}
}

// Words: the five that have a name.
func TestNamedEntities(t *testing.T) {
	for s, want := range map[string]string{"&lt;": "<", "&gt;": ">", "&amp;": "&", "&quot;": `"`, "&apos;": "'"} {
		standsFor(t, s, want)
		standsFor(t, s+s, want+want)
		standsFor(t, "&amp;"+s[1:], "&"+s[1:])
		for n := 1; n < len(s); n++ {
			noEntity(t, s[:n])
			noEntity(t, s[:n]+s)
		}
		noEntity(t, strings.ToUpper(s))
		noEntity(t, "&"+strings.ToUpper(s[1:2])+s[2:])
		noEntity(t, s[:len(s)-1]+" ;")
		noEntity(t, s[:len(s)-1]+"x;")
		noEntity(t, "& "+s[1:])
		noEntity(t, "&#"+s[1:])
	}
	standsFor(t, "&lt;b&gt;&amp;lt;/b&gt;", "<b>&lt;/b>")
}

// Words: an & that begins none.
func TestNoEntities(t *testing.T) {
	for _, s := range []string{
		"&", "&;", "&&", "& ", "&nbsp;", "&x;", "&copy;", "&#;", "&#x;", "&#X41;", "&#-1;", "&#+65;", "&#+1;", "&#x+41;", "&#x-41;", "&#6_5;", "&#x4_1;", "&#0x41;", "&#x0x41;", "&#xg;", "&#a;", "&#A;",
		"&#6a;", "&# 65;", "&#65 ;", "&#x 41;", "&#x41", "&#65", "&#65<", "&#6&#53;", "&##65;", "&#xx41;", "&x41;", "&65;", "&lt", "&l&lt;t;", "&amp", "&amp,", "&\n;", "&#65.0;", "&#6e1;", "&#\xd9\xa1;",
		"&\x00;", "&lt\x00;", "&#6\x00;", "&lt<!-- -->;", "&#1e1;", "&" + strings.Repeat("x", 1000) + ";", "&#" + strings.Repeat("0", 1000) + "65;", "&lt;&gt;&quo;",
	} {
		noEntity(t, s)
	}
}

// mayNumber tells of a number whether a character has it that may be told.
func mayNumber(n int) bool {
	return n == 9 || n == 10 || n == 13 || n >= 32 && n <= 1114111 && (n < 55296 || n > 57343)
}

func inUTF8(n int) string {
	return string(utf8.AppendRune(nil, rune(n)))
}

// Words: which numbers stand for characters, in decimal and in hexadecimal digits.
func TestNumbers(t *testing.T) {
	edges := []int{127, 128, 159, 160, 255, 256, 2047, 2048, 55295, 55296, 55297, 56320, 57342, 57343, 57344, 65279, 65533, 65534, 65535, 65536, 1114110, 1114111, 1114112, 1114113, 2000000, 9999999, 16777215, 131071}
	for n := range 127 {
		edges = append(edges, n)
	}
	for _, n := range edges {
		decimal, hex := "&#"+strconv.Itoa(n)+";", "&#x"+strconv.FormatInt(int64(n), 16)+";"
		if !mayNumber(n) {
			noEntity(t, decimal)
			noEntity(t, hex)
			continue
		}
		standsFor(t, decimal, inUTF8(n))
		standsFor(t, hex, inUTF8(n))
		standsFor(t, "&#x"+strings.ToUpper(hex[3:]), inUTF8(n))
	}
	standsFor(t, "&#x1F600;&#128512;&#xfffd;", "😀😀\xef\xbf\xbd")
	standsFor(t, "&#xe9;&#233;", "éé")
	standsFor(t, "&#xAbCd;", inUTF8(0xabcd))
}

// Words: one to seven decimal digits, one to six hexadecimal ones, as many 0 as there are ahead.
func TestDigits(t *testing.T) {
	for n := range 12 {
		decimal, hex := "&#"+strings.Repeat("0", n)+"65;", "&#x"+strings.Repeat("0", n)+"41;"
		if n+2 <= 7 {
			standsFor(t, decimal, "A")
		} else {
			noEntity(t, decimal)
		}
		if n+2 <= 6 {
			standsFor(t, hex, "A")
		} else {
			noEntity(t, hex)
		}
	}
	standsFor(t, "&#9;", "\t")
	standsFor(t, "&#xa;", "\n")
	standsFor(t, "&#x10ffff;", "\U0010ffff")
	standsFor(t, "&#1114111;", "\U0010ffff")
	standsFor(t, "&#0001114;", inUTF8(1114))
	for _, s := range []string{"&#00000065;", "&#x0000041;", "&#x010ffff;", "&#01114111;", "&#x110000;", "&#0;", "&#0000000;", "&#x0;", "&#x000000;", "&#4294967361;", "&#18446744073709551681;", "&#x100000041;"} {
		noEntity(t, s)
	}
}

// P10.2: what an entity stands for is a byte of the text, and begins and ends nothing.
func TestEntitiesAreBytes(t *testing.T) {
	standsFor(t, "&#60;b&#62;", "<b>")
	standsFor(t, "&#38;lt;", "&lt;")
	standsFor(t, "&#38;&#35;65;", "&#65;")
	standsFor(t, "&#34;&#39;&quot;&apos;", `"'"'`)
	standsFor(t, "&lt;!-- x --&gt;", "<!-- x -->")
	standsFor(t, "&#10;&#13;&#9;", "\n\r\t")
}
