package xmlpull_test

import (
	"testing"

	"chandler/api"
)

// stands tells of a byte whether it may stand somewhere.
func stands(n int) bool {
	return n >= 32 || n == 9 || n == 10 || n == 13
}

// around is a byte with others beside it.
func around(n int) []string {
	c := string([]byte{byte(n)})
	return []string{c, "x" + c, c + "x", "x" + c + "y", c + c}
}

// P10.2, Words, R7: bytes of a run stand for themselves, but for < and &, and those below 32 that are no layout.
func TestBytesOfRuns(t *testing.T) {
	for n := range 256 {
		for _, s := range around(n) {
			switch {
			case n == '<':
			case n == '&':
				refuses(t, "<a>"+s+"</a>", api.ErrXmlEntity, start("a"))
			case stands(n):
				reads(t, "<a>"+s+"</a>", within(words(s))...)
			default:
				refuses(t, "<a>"+s+"</a>", api.ErrXmlForm, start("a"))
			}
		}
	}
	long := ""
	for n := range 256 {
		if stands(n) && n != '<' && n != '&' {
			long += string([]byte{byte(n)})
		}
	}
	reads(t, "<a>"+long+"</a>", within(words(long))...)
	reads(t, "<a>\r\n\r</a>", within(words("\r\n\r"))...)
	reads(t, "<a>]]>--></a>", within(words("]]>-->"))...)
	reads(t, "<a>\xef\xbb\xbf</a>", within(words("\xef\xbb\xbf"))...)
}

// P10.2, Words: bytes between <![CDATA[ and ]]> stand for themselves, < and & too.
func TestBytesOfData(t *testing.T) {
	for n := range 256 {
		for _, s := range around(n) {
			if stands(n) {
				reads(t, "<a><![CDATA["+s+"]]></a>", within(words(s))...)
			} else {
				refuses(t, "<a><![CDATA["+s+"]]></a>", api.ErrXmlForm, start("a"))
			}
		}
	}
}

// P10.2, Words: bytes of what stands for nothing must be such as stand somewhere.
func TestBytesOfNothing(t *testing.T) {
	for n := range 256 {
		for _, s := range around(n) {
			err := api.OK
			if !stands(n) {
				err = api.ErrXmlForm
			}
			nothing(t, "<?x "+s+"?>", err)
			if s == "--" {
				err = api.ErrXmlForm
			}
			nothing(t, "<!--"+s+" -->", err)
		}
	}
}

// nothing asks for what stands for nothing, or is wrong, in an element, ahead of it, and behind it.
func nothing(t *testing.T, s string, err api.Errno) {
	t.Helper()
	if err == api.OK {
		reads(t, "<a>"+s+"</a>", within()...)
		reads(t, s+"<a></a>"+s, within()...)
		reads(t, "<a>x"+s+"y</a>", within(words("xy"))...)
		return
	}
	refuses(t, "<a>"+s+"</a>", err, start("a"))
	refuses(t, "<a>x"+s, err, start("a"))
	refuses(t, s+"<a></a>", err)
	refuses(t, "<a></a>"+s, err, within()...)
}

// P10.2: what stands for bytes between <![CDATA[ and the next ]]>, and what does not.
func TestData(t *testing.T) {
	for s, want := range map[string]string{
		"<![CDATA[a]]>": "a", "<![CDATA[]]]]>": "]]", "<![CDATA[]]]>": "]", "<![CDATA[]>]]>": "]>", "<![CDATA[]]&gt;]]>": "]]&gt;",
		"<![CDATA[<![CDATA[]]>": "<![CDATA[", "<![CDATA[<!-- -- -->]]>": "<!-- -- -->", "<![CDATA[</a>]]>": "</a>", "<![CDATA[&x;]]>": "&x;",
		"<![CDATA[a]]>]]>": "a]]>", "<![CDATA[a]]><![CDATA[b]]>": "ab", "x<![CDATA[]]>y": "xy", "<![CDATA[ ]]>": " ", "<![CDATA[ \n\t\r]]>": " \n\t\r",
		"<![CDATA[]]]]><![CDATA[>]]>": "]]>", "&lt;<![CDATA[&lt;]]>": "<&lt;", "<![CDATA[<?a]]>?>": "<?a?>",
	} {
		reads(t, "<a>"+s+"</a>", within(words(want))...)
	}
	reads(t, "<a><![CDATA[]]></a>", within()...)
	for _, s := range []string{
		"<![CDATA[", "<![CDATA[]", "<![CDATA[]]", "<![CDATA[] ]>", "<![CDATA[]] >", "<![CDATA[a", "<![cdata[a]]>", "<![CDATA a]]>", "<! [CDATA[a]]>", "<![ CDATA[a]]>",
		"<![CDATA [a]]>", "<![CDAT[a]]>", "<![]]>", "<![", "<![CDATA", "<!CDATA[a]]>", "< ![CDATA[a]]>", "<![CDATA[\x00]]>",
	} {
		refuses(t, "<a>"+s+"</a>", api.ErrXmlForm, start("a"))
		refuses(t, "<a>"+s, api.ErrXmlForm, start("a"))
	}
}

// P10.2: what stands for nothing: all from <!-- to the next --, which > must follow.
func TestComments(t *testing.T) {
	for _, s := range []string{
		"<!-- x -->", "<!---->", "<!-- -->", "<!-->-->", "<!-- - -->", "<!-- - - -->", "<!-- <b> -->", "<!-- &x; -->", "<!-- <![CDATA[ -->", "<!--<!-->", "<!-- > -->",
		"<!-- ?> -->", "<!--\n-->", "<!-- \xff -->", "<!----><!---->", "<!-- </a> -->", "<!--!-->",
	} {
		nothing(t, s, api.OK)
	}
	for _, s := range []string{
		"<!--", "<!-- ", "<!-- -", "<!-- --", "<!--->", "<!-- --->", "<!----->", "<!-- -- -->", "<!-- -- >", "<!-- --x-->", "<!-- x >", "<!- x -->", "<!-", "<!", "<!>", "<! -- x -->",
		"<!-- x --\n>", "<!-- <!-- x --> --", "<!---- ><!---->", "<!DOCTYPE a>", "<!ELEMENT a>", "<!x>", "<!!-- x -->",
	} {
		nothing(t, s, api.ErrXmlForm)
	}
}

// P10.2: what stands for nothing: a name behind <?, and all to the next ?>.
func TestInstructions(t *testing.T) {
	for _, s := range []string{
		"<?a?>", "<?a ?>", "<?a??>", "<?a???>", "<?a>?>", "<?a b=\"1\" c='2'?>", "<?a<b>?>", "<?a &x; ?>", "<?xml version=\"1.0\" encoding=\"UTF-8\"?>", "<?_.:-9?>", "<?a!?>",
		"<?a/?>", "<?a -- ?>", "<?a \xff?>", "<?a\x7f?>", "<?a\n?>", "<?XML?>", "<?a ? > ?>", "<?a?><?b?>", "<?a <?b?>",
	} {
		nothing(t, s, api.OK)
	}
	for _, s := range []string{"<?", "<??>", "<? a?>", "<?1?>", "<?-a?>", "<?\xc3\xa9?>", "<?a>", "<?a? >", "<?a ?", "<?a", "<?a\x00?>", "<?.a?>", "<?:a?>", "<?\n?>", "<?>?>", "<?&lt;?>"} {
		nothing(t, s, api.ErrXmlForm)
	}
}

// P10.2: all that stands between two tags is one text, or none, if it stands for nothing.
func TestRuns(t *testing.T) {
	reads(t, "<a>1<!-- x -->2<?y z?>3<![CDATA[4]]>5&#54;7&lt;<!---->&gt;</a>", within(words("1234567<>"))...)
	reads(t, "<a><!-- x --><?y?><![CDATA[]]><!-- z --></a>", within()...)
	reads(t, "<a><!-- x --><b><!-- y --></b><?z?></a>", within(start("b"), end("b"))...)
	reads(t, "<a>\n<!-- x -->\n<b/>\t</a>", within(words("\n\n"), start("b"), end("b"), words("\t"))...)
	reads(t, "<a> </a>", within(words(" "))...)
	reads(t, "<a><!----> </a>", within(words(" "))...)
	reads(t, "<a>&#32;</a>", within(words(" "))...)
}

// P10.2: outside of all a run stands for layout alone, however that is written, and is nothing.
func TestRunsOutside(t *testing.T) {
	for _, s := range []string{"", " ", "\t\n\r ", "&#32;", "&#x20;&#9;&#10;&#13;&#xA;&#xd;", "<![CDATA[ ]]>", "<![CDATA[]]>", "<![CDATA[\n]]>&#10;<!-- x --> <?x?>"} {
		reads(t, s+"<a></a>", within()...)
		reads(t, "<a></a>"+s, within()...)
		reads(t, s+"<a/>"+s, within()...)
	}
	for _, s := range []string{"x", " x ", "&lt;", "&#65;", "<![CDATA[x]]>", "<![CDATA[<b/>]]>", "\xef\xbb\xbf", "\x7f", "\xa0", "\u2028", "&#160;", "]]>", ">", "&#133;", " <!-- x -->.", "&quot;"} {
		refuses(t, s+"<a></a>", api.ErrXmlForm)
		refuses(t, "<a></a>"+s, api.ErrXmlForm, within()...)
		refuses(t, s, api.ErrXmlForm)
	}
}
