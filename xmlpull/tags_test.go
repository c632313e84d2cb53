package xmlpull_test

import (
	"strconv"
	"strings"
	"testing"

	"chandler/api"
)

func isLetter(n int) bool {
	return n >= 'a' && n <= 'z' || n >= 'A' && n <= 'Z'
}

// begins tells of a byte whether a name may begin with it.
func begins(n int) bool {
	return isLetter(n) || n == '_'
}

// goesOn tells of a byte whether a name may go on with it.
func goesOn(n int) bool {
	return begins(n) || n >= '0' && n <= '9' || n == '.' || n == ':' || n == '-'
}

// mayName asks for a name wherever one stands.
func mayName(t *testing.T, s string, may bool) {
	t.Helper()
	if may {
		reads(t, "<"+s+"/>", start(s), end(s))
		reads(t, "<"+s+"></"+s+"\n>", start(s), end(s))
		reads(t, "<a "+s+"='1'/>", start("a", s, "1"), end("a"))
		reads(t, "<a other='2'\t"+s+" ='1'></a>", start("a", "other", "2", s, "1"), end("a"))
		nothing(t, "<?"+s+"?>", api.OK)
		nothing(t, "<?"+s+" x?>", api.OK)
		return
	}
	refuses(t, "<"+s+"/>", api.ErrXmlForm)
	refuses(t, "<"+s+"></"+s+"\n>", api.ErrXmlForm)
	refuses(t, "<a "+s+"='1'/>", api.ErrXmlForm)
	refuses(t, "<a other='2'\t"+s+" ='1'></a>", api.ErrXmlForm)
	refuses(t, "<a></"+s+">", api.ErrXmlForm, start("a"))
	nothing(t, "<?"+s, api.ErrXmlForm)
}

// Words: which names may be, by all bytes.
func TestNames(t *testing.T) {
	for n := range 256 {
		c := string([]byte{byte(n)})
		// These have a meaning of their own at one of a name's places.
		if !strings.Contains("!/>?", c) {
			mayName(t, c, begins(n))
		}
		if goesOn(n) {
			mayName(t, "x"+c, true)
			mayName(t, "_"+c+c+"y", true)
			mayName(t, c+"x", begins(n))
		}
	}
	for _, s := range []string{"a", "Z", "_", "a-b", "a.b.c", "rpm:entry", "x:", "a::b", "__", "A1", "a--", "xml", "xmlns:rpm", "location"} {
		mayName(t, s, true)
	}
	for _, s := range []string{"", "1", "-a", ".a", ":a", "9a", "\xc3\xa9", "\xff", "\x00a", "*", "'a'", "&lt;", "=", "<a"} {
		mayName(t, s, false)
	}
}

// P10.2: a name ends where a byte stands that is none of a name's.
func TestEndsOfNames(t *testing.T) {
	for n := range 256 {
		c := string([]byte{byte(n)})
		space := strings.Contains("\t\n\r ", c)
		switch {
		case goesOn(n):
			refuses(t, "<a></a"+c+">", api.ErrXmlNest, start("a"))
			reads(t, "<a"+c+"/>", start("a"+c), end("a"+c))
		case space:
			reads(t, "<a"+c+"></a>", within()...)
			reads(t, "<a></a"+c+">", within()...)
		case c == ">":
			reads(t, "<a"+c+"</a"+c, within()...)
		case c == "/":
			reads(t, "<a"+c+">", within()...)
			refuses(t, "<a></a"+c+">", api.ErrXmlForm, start("a"))
		default:
			refuses(t, "<a"+c+"></a>", api.ErrXmlForm)
			refuses(t, "<a></a"+c+">", api.ErrXmlForm, start("a"))
		}
		if !goesOn(n) && !space && c != "=" {
			refuses(t, "<a x"+c+"='1'/>", api.ErrXmlForm)
		}
	}
}

// Words: 60 bytes of a name at their edge.
func TestLongNames(t *testing.T) {
	for n := 55; n <= 70; n++ {
		mayName(t, strings.Repeat("x", n), n <= 60)
		mayName(t, "_"+strings.Repeat(":", n-1), n <= 60)
	}
	mayName(t, strings.Repeat("a", 1000), false)
	mayName(t, strings.Repeat("a", 19000), false)
	fine, long := strings.Repeat("a", 60), strings.Repeat("a", 61)
	refuses(t, "<"+fine+"></"+fine[1:]+">", api.ErrXmlNest, start(fine))
	refuses(t, "<"+fine+"></"+long+">", api.ErrXmlForm, start(fine))
	refuses(t, "<"+fine+"></"+long, api.ErrXmlForm, start(fine))
	refuses(t, "<a "+fine+"='1' "+long+"='&x;'/>", api.ErrXmlForm)
}

// layouts are some of layout, and none.
func layouts() []string {
	return []string{"", " ", "\t", "\n", "\r", " \n\t\r  "}
}

// P10.2: where layout may stand, and where it must.
func TestLayout(t *testing.T) {
	for _, s := range layouts() {
		reads(t, "<a"+s+"/>", within()...)
		reads(t, "<a"+s+"></a"+s+">", within()...)
		for _, u := range layouts() {
			reads(t, "<a x"+s+"="+u+"'1'></a>", start("a", "x", "1"), end("a"))
			reads(t, "<a x='1'"+s+"></a"+u+">", start("a", "x", "1"), end("a"))
			if s != "" && u != "" {
				reads(t, "<a"+s+"x='1'"+u+"y=\"2\"/>", start("a", "x", "1", "y", "2"), end("a"))
				reads(t, "<a"+s+"x='1'"+u+"/>", start("a", "x", "1"), end("a"))
			}
		}
	}
	for _, s := range layouts()[1:] {
		for _, u := range []string{"<" + s + "a/>", "<a/" + s + ">", "<a x='1'/" + s + ">", "<a x" + s + "y='1'/>"} {
			refuses(t, u, api.ErrXmlForm)
		}
		refuses(t, "<a><"+s+"/a>", api.ErrXmlForm, start("a"))
		refuses(t, "<a></"+s+"a>", api.ErrXmlForm, start("a"))
		refuses(t, "<a></a"+s+"x>", api.ErrXmlForm, start("a"))
	}
	for _, s := range []string{"<a x='1'y='2'/>", "<ax='1'/>", "<a\"x\"='1'/>", "<a='1'/>", "<a x='1''2'/>", "<a\v/>", "<a\fx='1'/>", "<a\xa0/>", "<a x='1'\x00y='2'/>", "<a x\v='1'/>", "<a x=\f'1'/>"} {
		refuses(t, s, api.ErrXmlForm)
	}
}

// P10.2: what is no start and no end.
func TestNoTags(t *testing.T) {
	for _, s := range []string{
		"<", "<>", "</", "</>", "<//>", "<1/>", "<b", "<b ", "<b/", "<b//>", "<b/x>", "<b / >", "<b x", "<b x>", "<b x/>", "<b x=", "<b x=/>", "<b x=>", "<b x=1/>", "<b x=y>", "<b x='", "<b x='1",
		"<b x=\"1'/>", "<b x='1\"/>", "<b x='1'", "<b x='1' ", "<b x='1'/", "<b x='1' y/>", "<b x='1',y='2'/>", "<b x=='1'/>", "<b x '1'/>", "<b 'x'='1'/>", "<b x=`1`/>", "<b x='<'/>", "<b x=\"<\"/>",
		"<b x='1'>'<", "<b ='1'/>", "<b &lt;='1'/>", "<b x=&quot;1&quot;/>", "</b x='1'>", "</b/>", "</b", "</b ", "</ b>", "</1>", "</&lt;>", "<b<c/>", "</b<c/>", "<b <!-- x -->/>", "<b x='1' <!-- x -->/>", "<b?>", "</b?>",
		"<b x='<![CDATA[1]]>'/>", "</!-- x -->", "<&lt;/>", "<=>", "<\x00>", "<b\x00/>", "<b x='1' x='2'/>", "<b\x7f/>", "<b x='1' &x;/>", "<b &x;>",
	} {
		want := []api.Piece{start("a"), words("t")}
		if s == "<b x='1'>'<" {
			want = append(want, start("b", "x", "1"), words("'"))
		}
		refuses(t, "<a>t"+s, api.ErrXmlForm, want...)
	}
}

// P10.2: what may stand in a value, by all bytes.
func TestBytesOfValues(t *testing.T) {
	for n := range 256 {
		for _, s := range around(n) {
			for _, quote := range []string{`"`, `'`} {
				text := "<a x=" + quote + s + quote + "/>"
				switch {
				case string([]byte{byte(n)}) == quote || n == '<' || !stands(n):
					refuses(t, text, api.ErrXmlForm)
				case n == '&':
					refuses(t, text, api.ErrXmlEntity)
				default:
					reads(t, text, start("a", "x", s), end("a"))
				}
			}
		}
	}
}

// P10.2: values that are empty, that have quotes of the other kind, and that are told as they stand.
func TestValues(t *testing.T) {
	reads(t, `<a x="" y=''/>`, start("a", "x", "", "y", ""), end("a"))
	reads(t, `<a x="'" y='"'/>`, start("a", "x", "'", "y", `"`), end("a"))
	reads(t, `<a x=">" y='/>'/>`, start("a", "x", ">", "y", "/>"), end("a"))
	reads(t, "<a x=\" 1\r\n\t2 \"/>", start("a", "x", " 1\r\n\t2 "), end("a"))
	reads(t, `<a x="]]>--?>"/>`, start("a", "x", "]]>--?>"), end("a"))
	reads(t, `<a x="&#10;&lt;&quot;"/>`, start("a", "x", "\n<\""), end("a"))
	reads(t, `<a x="y='1' z"/>`, start("a", "x", "y='1' z"), end("a"))
	long := strings.Repeat("v", 39980)
	reads(t, `<a x="`+long+`"/>`, start("a", "x", long), end("a"))
}

// P10.2: attributes are told in order; those of one name stand in two elements, but not in one.
func TestAttrs(t *testing.T) {
	reads(t, `<a z="1" b="2" y="3" a="4"/>`, start("a", "z", "1", "b", "2", "y", "3", "a", "4"), end("a"))
	reads(t, `<a x="1" X="2" xx="3" x.="4" x:x="5"/>`, start("a", "x", "1", "X", "2", "xx", "3", "x.", "4", "x:x", "5"), end("a"))
	reads(t, `<a x="1"><b x="1"/><b x="1"/></a>`, start("a", "x", "1"), start("b", "x", "1"), end("b"), start("b", "x", "1"), end("b"), end("a"))
	reads(t, `<a a="a"/>`, start("a", "a", "a"), end("a"))
	for _, s := range []string{`<a x="1" x="1"/>`, `<a x="1" x="2">`, `<a x="1" y="2" x='3'/>`, `<a x="1" y="2" y="3"/>`, `<a x="1" x`, `<a x="1" x/>`, `<a x="1" x ="&y;"/>`, `<a x="1" x=&y;`} {
		refuses(t, s, api.ErrXmlForm)
	}
}

// withAttrs is a start that lacks its end, of so many attributes.
func withAttrs(n int) (string, api.Piece) {
	s, p := "<a", start("a")
	for i := range n {
		name, value := "x"+strconv.Itoa(i), strconv.Itoa(i*i)
		s += " " + name + "='" + value + "'"
		p.Attrs = append(p.Attrs, api.Attr{Name: name, Value: value})
	}
	return s, p
}

// P10.3: MaxAttrs at its edge, in each element.
func TestMaxAttrs(t *testing.T) {
	for n := range 20 {
		s, p := withAttrs(n)
		if n <= 16 {
			reads(t, s+"/>", p, end("a"))
			reads(t, s+">"+s+"/></a>", p, p, end("a"), end("a"))
		} else {
			refuses(t, s+"/>", api.ErrXmlLong)
			refuses(t, "<b>"+s+"/></b>", api.ErrXmlLong, start("b"))
		}
	}
}

// P10.3: the 17th attribute is too many when its name was read, and not before.
func TestAttrTooMany(t *testing.T) {
	s, p := withAttrs(16)
	reads(t, s+" \n></a>", p, end("a"))
	for _, more := range []string{" y='1'/>", " y", " y>", " y =", " y\x00", " y='&x;'/>", " y='<", " _:-.='1'", "\ty<b/>", " y&x;", " x0='1'/>", " x15", " " + strings.Repeat("y", 60), " y" + strings.Repeat(" ", 1000)} {
		refuses(t, s+more, api.ErrXmlLong)
	}
	for _, more := range []string{"", " ", " ='1'/>", " 1='1'/>", " &x;", "y='1'/>", "x0='1'/>", " " + strings.Repeat("y", 61) + "='1'/>", " <b/>", " / >", " \x00y", "&x;"} {
		refuses(t, s+more, api.ErrXmlForm)
	}
	refuses(t, strings.Replace(s, "x3", "x2", 1)+" y='1'/>", api.ErrXmlForm)
	refuses(t, strings.Replace(s, "'9'", "'&x;'", 1)+" y='1'/>", api.ErrXmlEntity)
}

// deep is so many starts of elements within one another, and their pieces.
func deep(n int) (string, []api.Piece) {
	s, l := "", []api.Piece(nil)
	for i := range n {
		s += "<e" + strconv.Itoa(i) + ">"
		l = append(l, start("e"+strconv.Itoa(i)))
	}
	return s, l
}

// P10.3: MaxDepth at its edge: 16 elements within one another, the innermost one empty or not, and as often as one likes.
func TestMaxDepth(t *testing.T) {
	for n := 1; n <= 20; n++ {
		s, l := deep(n)
		if n > 16 {
			refuses(t, s, api.ErrXmlDeep, l[:16]...)
			continue
		}
		for i := n - 1; i >= 0; i-- {
			s += "</e" + strconv.Itoa(i) + ">"
			l = append(l, end("e"+strconv.Itoa(i)))
		}
		reads(t, s, l...)
	}
	s, l := deep(15)
	for i := range 20 {
		s += "<b/><c>" + strconv.Itoa(i) + "</c>"
		l = append(l, start("b"), end("b"), start("c"), words(strconv.Itoa(i)), end("c"))
	}
	refuses(t, s, api.ErrXmlForm, l...)
	refuses(t, s+"<b><c/>", api.ErrXmlDeep, append(l, start("b"))...)
}

// P10.3: an element too deep is one when its name was read, and not before.
func TestTooDeep(t *testing.T) {
	s, l := deep(16)
	for _, more := range []string{"<b/>", "<b></b>", "<b", "<b x=&y;", "<b x='1' x='1'/>", "<b\x00", "<b<", "<b &x;", "<e15/>", "<_-:.", "<" + strings.Repeat("b", 60) + "='", "<b!", "<b/"} {
		refuses(t, s+more, api.ErrXmlDeep, l...)
	}
	for _, more := range []string{"<", "<1/>", "< b/>", "<!b>", "<?1?>", "<>", "<" + strings.Repeat("b", 61) + "/>", "\x00<b/>"} {
		refuses(t, s+more, api.ErrXmlForm, l...)
	}
	refuses(t, s+"&x;<b/>", api.ErrXmlEntity, l...)
	refuses(t, s+"</b><b/>", api.ErrXmlNest, l...)
	refuses(t, s+"t<b/>", api.ErrXmlDeep, append(l, words("t"))...)
}

// P10.3: an end of something else, or of nothing, when it is whole.
func TestNest(t *testing.T) {
	refuses(t, `<a></b>`, api.ErrXmlNest, start("a"))
	refuses(t, `<a></A>`, api.ErrXmlNest, start("a"))
	refuses(t, `<a></aa>`, api.ErrXmlNest, start("a"))
	refuses(t, `<aa></a>`, api.ErrXmlNest, start("aa"))
	refuses(t, "<a></b \n>", api.ErrXmlNest, start("a"))
	refuses(t, `<a>t</b>`, api.ErrXmlNest, start("a"), words("t"))
	refuses(t, `<a><b></a></b>`, api.ErrXmlNest, start("a"), start("b"))
	refuses(t, `<a><b/></b></a>`, api.ErrXmlNest, start("a"), start("b"), end("b"))
	refuses(t, `<a><b></b></b>`, api.ErrXmlNest, start("a"), start("b"), end("b"))
	refuses(t, `</a>`, api.ErrXmlNest)
	refuses(t, ` </a><b/>`, api.ErrXmlNest)
	refuses(t, `<a/></a>`, api.ErrXmlNest, within()...)
	refuses(t, `<a></a></a>`, api.ErrXmlNest, within()...)
	for _, s := range []string{`</b`, `</b `, `</b/>`, `</b x>`, `</b x='1'>`, `</b<`, "</b\x00>", `</b&x;>`, `</ b>`, `</>`, `</`} {
		refuses(t, `<a>`+s, api.ErrXmlForm, start("a"))
		refuses(t, s, api.ErrXmlForm)
		refuses(t, `<a/>`+s, api.ErrXmlForm, within()...)
	}
}
