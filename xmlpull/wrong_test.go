package xmlpull_test

import (
	"slices"
	"strings"
	"testing"

	"chandler/api"
	"chandler/xmlpull"
)

// fault is something wrong that stands within an element a, and what is told of it.
type fault struct {
	text string
	err  api.Errno
	told []api.Piece
}

// faults are some of each error, in runs, starts and ends.
func faults() []fault {
	return []fault{
		{"&x;", api.ErrXmlEntity, nil},
		{"&#0;", api.ErrXmlEntity, nil},
		{"&", api.ErrXmlEntity, nil},
		{"<b x='&x;'/>", api.ErrXmlEntity, nil},
		{"\x00", api.ErrXmlForm, nil},
		{"<!x>", api.ErrXmlForm, nil},
		{"<!-- -- -->", api.ErrXmlForm, nil},
		{"<? x?>", api.ErrXmlForm, nil},
		{"<![CDATA[\x01]]>", api.ErrXmlForm, nil},
		{"<1>", api.ErrXmlForm, nil},
		{"<b x=1/>", api.ErrXmlForm, nil},
		{"<b x='1' x='1'/>", api.ErrXmlForm, nil},
		{"</b x>", api.ErrXmlForm, nil},
		{"</b>", api.ErrXmlNest, nil},
		{"</a></a>", api.ErrXmlNest, []api.Piece{end("a")}},
		{"</a><b/>", api.ErrXmlForm, []api.Piece{end("a")}},
		{"</a>x<b/>", api.ErrXmlForm, []api.Piece{end("a")}},
		{"</a>x&y;<b/>", api.ErrXmlEntity, []api.Piece{end("a")}},
		{"<b" + attrs17() + "/>", api.ErrXmlLong, nil},
		{"<b>" + strings.Repeat("<c>", 15), api.ErrXmlDeep, slices.Concat([]api.Piece{start("b")}, slices.Repeat([]api.Piece{start("c")}, 14))},
	}
}

func attrs17() string {
	s := ""
	for c := 'a'; c < 'a'+17; c++ {
		s += " " + string(c) + "='1'"
	}
	return s
}

// P10.3: of two things that are wrong the first one from the left is told, whatever stands behind it.
func TestFirstFromTheLeft(t *testing.T) {
	for _, f := range faults() {
		for _, g := range faults() {
			for _, between := range []string{"", " ", "<d/>", "</a>", "\n</b>"} {
				refuses(t, "<a>"+f.text+between+g.text, f.err, append([]api.Piece{start("a")}, f.told...)...)
			}
		}
		for _, behind := range []string{"", "<", "'", `"`, ">", "]]>", "-->", "?>", "/>", ";", "</a>", "\x00", "\xff", strings.Repeat(" ", 30000)} {
			refuses(t, "<a>"+f.text+behind, f.err, append([]api.Piece{start("a")}, f.told...)...)
		}
	}
}

// P10.3: what is wrong is told behind the pieces ahead of it.
func TestPiecesAhead(t *testing.T) {
	ahead := []api.Piece{start("a"), words("1"), start("b", "x", "2"), end("b"), words("3"), start("c")}
	for _, f := range faults() {
		if f.err == api.ErrXmlDeep || len(f.told) > 0 {
			continue
		}
		refuses(t, "<a>1<b x='2'/>3<c>"+f.text, f.err, ahead...)
		refuses(t, "<a>1<b x='2'/>3<c>4</c>"+f.text, f.err, slices.Concat(ahead, []api.Piece{words("4"), end("c")})...)
		refuses(t, "<?x?><a>1<b x='2'/><!-- -->3<c>"+f.text, f.err, ahead...)
	}
}

// P10.3: in a run nothing of it is told, however much of it is right; of a run that is whole all is told, whatever stands behind it.
func TestWrongInRuns(t *testing.T) {
	for s, err := range map[string]api.Errno{
		"t&x;": api.ErrXmlEntity, "t&": api.ErrXmlEntity, "t\x00": api.ErrXmlForm, "t<!x>": api.ErrXmlForm, "t<!": api.ErrXmlForm, "t<!-- x": api.ErrXmlForm, "t<?": api.ErrXmlForm,
		"&lt;<![CDATA[x]]><!-- --><?x?>&x;": api.ErrXmlEntity, "&lt;<![CDATA[x]]><!-- --><?x?>\x1f": api.ErrXmlForm, "<![CDATA[t]]>&;": api.ErrXmlEntity, "t<![CDATA[x": api.ErrXmlForm,
		"t<![CDATA[\x00&x;]]>": api.ErrXmlForm, "t&x;<![CDATA[\x00]]>": api.ErrXmlEntity, "t<!-- \x00 -->&x;": api.ErrXmlForm, "t<!-- &x; --": api.ErrXmlForm, "t<?x &x;": api.ErrXmlForm, "\x00&x;": api.ErrXmlForm, "&x\x00;": api.ErrXmlEntity,
	} {
		refuses(t, "<a>"+s, err, start("a"))
		refuses(t, "<a>"+s+"</a>", err, start("a"))
		refuses(t, "<a>u<b/>"+s, err, start("a"), words("u"), start("b"), end("b"))
	}
	for s, err := range map[string]api.Errno{
		"": api.ErrXmlForm, "<": api.ErrXmlForm, "<1>": api.ErrXmlForm, "<b x=1/>": api.ErrXmlForm, "</b>": api.ErrXmlNest, "</": api.ErrXmlForm, "<b x='&x;'/>": api.ErrXmlEntity, "<b" + attrs17(): api.ErrXmlLong, "< !-- x -->": api.ErrXmlForm,
	} {
		refuses(t, "<a>t"+s, err, start("a"), words("t"))
		refuses(t, "<a>t<!-- x -->&lt;<![CDATA[<]]>"+s, err, start("a"), words("t<<"))
		refuses(t, "<a><!-- x -->"+s, err, start("a"))
	}
}

// P10.3: in a start nothing of it is told, and the first thing that is wrong in it is.
func TestWrongInStarts(t *testing.T) {
	for s, err := range map[string]api.Errno{
		"<b x='1' y='&x;' y='1'/>": api.ErrXmlEntity, "<b x='1' x='&x;'/>": api.ErrXmlForm, "<b x='&x;' x='1'/>": api.ErrXmlEntity, "<b x='&x;<'/>": api.ErrXmlEntity, "<b x='<&x;'/>": api.ErrXmlForm, "<b x='\x00&x;'/>": api.ErrXmlForm,
		"<b x='&x;\x00'/>": api.ErrXmlEntity, "<b x='&lt'/>": api.ErrXmlEntity, "<b x='&lt": api.ErrXmlEntity, "<b x='1": api.ErrXmlForm, "<b 1='&x;'/>": api.ErrXmlForm, "<b x=&x;/>": api.ErrXmlForm, "<b x='1'y='&x;'/>": api.ErrXmlForm, "<b x='1'": api.ErrXmlForm,
		"<b" + attrs17() + " x=1": api.ErrXmlLong, "<b" + strings.Replace(attrs17(), "'1'", "'&x;'", 1): api.ErrXmlEntity, "<b" + strings.Replace(attrs17(), "'1'", "1", 1): api.ErrXmlForm, "<b" + strings.Replace(attrs17(), "p=", "a=", 1): api.ErrXmlForm,
		"<b" + strings.Replace(attrs17(), "q=", "a=", 1): api.ErrXmlLong, "<b" + strings.Replace(attrs17(), "q='1'", "q='&x;'", 1): api.ErrXmlLong, "<b" + strings.Replace(attrs17(), "p='1'", "p='&x;'", 1): api.ErrXmlEntity,
	} {
		refuses(t, "<a>"+s, err, start("a"))
		refuses(t, s, err)
	}
}

// P10.3: a second element outside of all is one when its name was read, whatever stands behind that.
func TestSecondElement(t *testing.T) {
	for _, s := range []string{"<b x='&x;'/>", "<b" + attrs17() + "/>", "<b", "<b></c>", "<b\x00", "<b>&x;</b>"} {
		refuses(t, "<a/>"+s, api.ErrXmlForm, within()...)
		refuses(t, "<a></a> <!-- -->"+s, api.ErrXmlForm, within()...)
	}
	refuses(t, "<a/>&x;<b/>", api.ErrXmlEntity, within()...)
	refuses(t, "<a/></b><b/>", api.ErrXmlNest, within()...)
}

// P10.3: that outside of all a run is more than layout is told when it is whole: behind what is wrong within it, and ahead of what stands behind it.
func TestRunsOutsideAreWhole(t *testing.T) {
	for s, err := range map[string]api.Errno{
		"x&y;": api.ErrXmlEntity, "x &y; z": api.ErrXmlEntity, "x<!-- -->&y;": api.ErrXmlEntity, "<![CDATA[x]]>&y;": api.ErrXmlEntity, "&lt;&y;": api.ErrXmlEntity, "x<?x?>&": api.ErrXmlEntity, " &y;": api.ErrXmlEntity,
		"x": api.ErrXmlForm, "x<!y>&z;": api.ErrXmlForm, "x\x00&z;": api.ErrXmlForm, "x</b>": api.ErrXmlForm, "x</b>&y;": api.ErrXmlForm, "x<b x='&x;'/>": api.ErrXmlForm, "x<b" + attrs17(): api.ErrXmlForm, "&#65;</b>": api.ErrXmlForm,
		" </b>": api.ErrXmlNest, "</b>": api.ErrXmlNest, "&#32;</b>&y;": api.ErrXmlNest, "<!-- x --></b>x": api.ErrXmlNest, "<![CDATA[ ]]></b>": api.ErrXmlNest,
	} {
		refuses(t, s, err)
		refuses(t, s+"<a/>", err)
		refuses(t, "<a/>"+s, err, within()...)
		refuses(t, "<a></a>"+s+"<b/>", err, within()...)
	}
}

// P10.1: behind XDone always XDone; behind an error always that error, with nothing beside it.
func TestAlways(t *testing.T) {
	for _, s := range []string{"<a/>", "", "<a>", "<a>&x;</a>", "<a></b></a>", "</a>", "<a>&x;</b>", "<a>" + strings.Repeat("<b>", 16) + "</b>", "<a" + attrs17() + ">x</a>"} {
		r, e := xmlpull.New(s)
		if e != api.OK {
			t.Fatal(e)
		}
		p, e := r.Next()
		for e == api.OK && p.Kind != api.XDone {
			p, e = r.Next()
		}
		for range 1000 {
			if q, f := r.Next(); f != e || !same(q, p) {
				t.Fatalf("%q: %v, %d behind %v, %d", s, q, f, p, e)
			}
		}
		if e != api.OK && !same(p, api.Piece{}) {
			t.Errorf("%q: %v beside %d", s, p, e)
		}
	}
}
