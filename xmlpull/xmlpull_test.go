package xmlpull_test

import (
	"slices"
	"strings"
	"testing"

	"chandler/api"
	"chandler/xmlpull"
)

// start is the beginning of an element; each name of an attribute stands ahead of its value.
func start(name string, attrs ...string) api.Piece {
	p := api.Piece{Kind: api.XStart, Name: name}
	for i := 0; i < len(attrs); i += 2 {
		p.Attrs = append(p.Attrs, api.Attr{Name: attrs[i], Value: attrs[i+1]})
	}
	return p
}

func end(name string) api.Piece {
	return api.Piece{Kind: api.XEnd, Name: name}
}

func words(s string) api.Piece {
	return api.Piece{Kind: api.XText, Text: s}
}

// within is pieces within an element a.
func within(l ...api.Piece) []api.Piece {
	return slices.Concat([]api.Piece{start("a")}, l, []api.Piece{end("a")})
}

func same(p, q api.Piece) bool {
	return p.Kind == q.Kind && p.Name == q.Name && p.Text == q.Text && slices.Equal(p.Attrs, q.Attrs)
}

// cut is a text that is not too long to be shown.
func cut(s string) string {
	return s[:min(len(s), 300)]
}

// reads asks whether a text is these pieces.
func reads(t *testing.T, text string, want ...api.Piece) {
	t.Helper()
	tells(t, text, want, api.OK)
}

// refuses asks whether a text is wrong behind these pieces.
func refuses(t *testing.T, text string, err api.Errno, want ...api.Piece) {
	t.Helper()
	tells(t, text, want, err)
}

// tells asks All, and Next, time after time.
func tells(t *testing.T, text string, want []api.Piece, err api.Errno) {
	t.Helper()
	if l, e := xmlpull.All(text); e != err || !slices.EqualFunc(l, want, same) {
		t.Errorf("All %q: %v, %d, not %v, %d", cut(text), l, e, want, err)
	}
	r, e := xmlpull.New(text)
	if e != api.OK || r == nil {
		t.Fatalf("New %q: %v, %d", cut(text), r, e)
	}
	for i, w := range want {
		if p, e := r.Next(); e != api.OK || !same(p, w) {
			t.Errorf("%q: %v, %d at %d, not %v", cut(text), p, e, i, w)
		}
	}
	last := api.Piece{Kind: api.XDone}
	if err != api.OK {
		last = api.Piece{}
	}
	for range 3 {
		if p, e := r.Next(); e != err || !same(p, last) {
			t.Errorf("%q: %v, %d behind all, not %v, %d", cut(text), p, e, last, err)
		}
	}
}

// The chapter's examples.
func TestExamples(t *testing.T) {
	reads(t, `<a x="1 &amp; 2"><b/>t<!-- c -->u</a>`, start("a", "x", "1 & 2"), start("b"), end("b"), words("tu"), end("a"))
	reads(t, `<a>&#65;<![CDATA[<]]></a>`, start("a"), words("A<"), end("a"))
	refuses(t, `<a><b></a>`, api.ErrXmlNest, start("a"), start("b"))
	refuses(t, `<a>&x;</a>`, api.ErrXmlEntity, start("a"))
	refuses(t, `<a>`, api.ErrXmlForm, start("a"))
	refuses(t, `x<a/>`, api.ErrXmlForm)
	refuses(t, `<a/><b/>`, api.ErrXmlForm, start("a"), end("a"))
	refuses(t, `<a x=1/>`, api.ErrXmlForm)
}

// Section Errors.
func TestErrors(t *testing.T) {
	for n, e := range map[int]api.Errno{1: api.ErrArg, 100: api.ErrXmlForm, 101: api.ErrXmlNest, 102: api.ErrXmlDeep, 103: api.ErrXmlEntity, 104: api.ErrXmlLong} {
		if int(e) != n {
			t.Errorf("%d, not %d", e, n)
		}
	}
	for n, k := range map[int]int{1: api.XStart, 2: api.XEnd, 3: api.XText, 4: api.XDone} {
		if k != n {
			t.Errorf("kind %d, not %d", k, n)
		}
	}
}

// R1: a nil reader.
func TestNil(t *testing.T) {
	var r *xmlpull.Reader
	for range 3 {
		if p, e := r.Next(); e != api.ErrArg || !same(p, api.Piece{}) {
			t.Errorf("%v, %d", p, e)
		}
	}
}

// ofSize is a text of so many bytes that is right.
func ofSize(n int) string {
	return "<a>" + strings.Repeat("x", n-len("<a></a>")) + "</a>"
}

// P10.1, P10.4: MaxText at its edge, whatever the text is.
func TestMaxText(t *testing.T) {
	for _, n := range []int{39998, 39999, 40000} {
		reads(t, ofSize(n), within(words(strings.Repeat("x", n-7)))...)
		refuses(t, strings.Repeat(" ", n), api.ErrXmlForm)
		refuses(t, "<a>"+strings.Repeat("&", n-3), api.ErrXmlEntity, start("a"))
	}
	for _, s := range []string{ofSize(40001), ofSize(1000000), strings.Repeat(" ", 40001), strings.Repeat("&", 40001), "<a/>" + strings.Repeat("\x00", 40000)} {
		if r, e := xmlpull.New(s); r != nil || e != api.ErrXmlLong {
			t.Errorf("New of %d bytes: %v, %d", len(s), r, e)
		}
		if l, e := xmlpull.All(s); len(l) > 0 || e != api.ErrXmlLong {
			t.Errorf("All of %d bytes: %v, %d", len(s), l, e)
		}
	}
}

// P10.1, P10.2: bytes are counted as they stand in the text, not what they stand for.
func TestMaxTextOfOthers(t *testing.T) {
	for _, s := range []string{"&lt;", "<!---->", "<![CDATA[]]>", "<?a?>", "é", "<b/>"} {
		n := (api.MaxText - 7) / len(s)
		text := "<a>" + strings.Repeat(s, n)
		text += strings.Repeat(" ", api.MaxText-4-len(text)) + "</a>"
		if _, e := xmlpull.All(text); len(text) != api.MaxText || e != api.OK {
			t.Errorf("%d bytes of %q: %d", len(text), s, e)
		}
		if _, e := xmlpull.All(text + " "); e != api.ErrXmlLong {
			t.Errorf("a byte more of %q: %d", s, e)
		}
	}
}

// P10.2: where there is just one element, and where there is none.
func TestWhole(t *testing.T) {
	for _, s := range []string{`<a/>`, `<a></a>`, ` <a/>`, "\t\r\n<a/>\n\n", `<!-- x --><a/><!-- y -->`, `<?xml version="1.0"?><a/>`, "<?b?> <!---->\n<a />\t<?c?>", `<a></a >`} {
		reads(t, s, start("a"), end("a"))
	}
	for _, s := range []string{``, ` `, "\n", `<!-- a -->`, `<?xml version="1.0"?>`, `<![CDATA[]]>`, `x`, `&lt;`, `<`, `>`, `a/>`, `<!-- <a/> -->`} {
		refuses(t, s, api.ErrXmlForm)
	}
}

// P10.3: a second element outside of all, and one that is open at the end.
func TestOneElement(t *testing.T) {
	one := within()
	for _, s := range []string{`<b/>`, `<b></b>`, ` <a/>`, `<!-- --><b>`, `<a`, `<?x?><b/>`, `<b x=`, `<`, ` <b`} {
		refuses(t, `<a/>`+s, api.ErrXmlForm, one...)
		refuses(t, `<a></a>`+s, api.ErrXmlForm, one...)
	}
	refuses(t, `<a><b>`, api.ErrXmlForm, start("a"), start("b"))
	refuses(t, `<a><b></b>`, api.ErrXmlForm, start("a"), start("b"), end("b"))
	refuses(t, `<a><b/>`, api.ErrXmlForm, start("a"), start("b"), end("b"))
	refuses(t, `<a> `, api.ErrXmlForm, start("a"), words(" "))
	refuses(t, `<a><b/>x`, api.ErrXmlForm, start("a"), start("b"), end("b"), words("x"))
	refuses(t, `<a><!-- x -->`, api.ErrXmlForm, start("a"))
}

// P10.2: elements beside one another and within one another, of one name too.
func TestElements(t *testing.T) {
	reads(t, `<a><a><a/></a><a/></a>`, within(start("a"), start("a"), end("a"), end("a"), start("a"), end("a"))...)
	reads(t, `<a>1<b>2<c/>3</b>4<d></d>5</a>`, within(words("1"), start("b"), words("2"), start("c"), end("c"), words("3"), end("b"), words("4"), start("d"), end("d"), words("5"))...)
	reads(t, `<a> <b/> </a>`, within(words(" "), start("b"), end("b"), words(" "))...)
}

// R3, R5: readers are apart, and what one of them answers hangs on its own text alone.
func TestReadersApart(t *testing.T) {
	text := `<a x="1"><b y="2"><c/></b>t</a>`
	want := []api.Piece{start("a", "x", "1"), start("b", "y", "2"), start("c"), end("c"), end("b"), words("t"), end("a"), {Kind: api.XDone}}
	first, _ := xmlpull.New(text)
	second, _ := xmlpull.New(text)
	wrong, _ := xmlpull.New(`<a></b>`)
	for i, w := range want {
		if p, e := first.Next(); e != api.OK || !same(p, w) {
			t.Errorf("%v, %d at %d", p, e, i)
		}
		wrong.Next()
		reads(t, text, want[:7]...)
		if p, e := second.Next(); e != api.OK || !same(p, w) {
			t.Errorf("%v, %d at %d", p, e, i)
		}
	}
	if _, e := wrong.Next(); e != api.ErrXmlNest {
		t.Errorf("%d", e)
	}
}
