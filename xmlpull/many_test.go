package xmlpull_test

import (
	"math/rand"
	"slices"
	"strconv"
	"strings"
	"testing"

	"chandler/api"
	"chandler/xmlpull"
)

// maker puts a text together, and knows what it stands for.
type maker struct {
	r    *rand.Rand
	deep bool // each element has one within, as long as one may
	text string
	told []api.Piece
	run  string // what stands for bytes since the last tag
	open []string
	done bool // the element outside of all others has begun
	all  []place
}

// place is where something wrong can be put into a text.
type place struct {
	at    int
	told  []api.Piece
	run   string // what is told too, if the run ends here
	depth int
	done  bool
	attrs int // attributes ahead in a start; -1: this is in none
}

func (m *maker) mark(attrs int) {
	m.all = append(m.all, place{len(m.text), slices.Clone(m.told), m.run, len(m.open), m.done, attrs})
}

func (m *maker) of(texts ...string) string {
	return texts[m.r.Intn(len(texts))]
}

func (m *maker) name() string {
	if m.r.Intn(20) == 0 {
		return "_" + strings.Repeat("n", m.r.Intn(api.MaxName))
	}
	return m.of("a", "b", "c", "rpm:entry", "x-y", "d.e", "_1", "name", "Z9")
}

func (m *maker) space() string {
	return m.of("", "", "", " ", "\n", "\t \r\n")
}

// written is one of the ways to write a character, where these bytes may not stand for themselves.
func (m *maker) written(c rune, not string) string {
	named := map[rune]string{'<': "&lt;", '>': "&gt;", '&': "&amp;", '"': "&quot;", '\'': "&apos;"}
	n := m.r.Intn(8)
	switch e, is := named[c]; {
	case is && n < 3:
		return e
	case n == 3 && c < 1000000:
		return "&#" + m.of("", "0") + strconv.Itoa(int(c)) + ";"
	case n == 4 && c < 0x100000:
		return "&#x" + m.of("", "0") + strconv.FormatInt(int64(c), 16) + ";"
	case n == 5:
		return "&#x" + strings.ToUpper(strconv.FormatInt(int64(c), 16)) + ";"
	case !strings.ContainsRune(not, c):
		return string(c)
	case is:
		return e
	}
	return "&#" + strconv.Itoa(int(c)) + ";"
}

func (m *maker) char() rune {
	if m.r.Intn(10) == 0 {
		rare := []rune{0x7f, 0xe9, 0x7ff, 0x800, 0xd7ff, 0xe000, 0xffff, 0x10000, 0x10ffff}
		return rare[m.r.Intn(len(rare))]
	}
	const some = "abc <>&\"']-!?/\n\r\t;#x1="
	return rune(some[m.r.Intn(len(some))])
}

func (m *maker) value() (string, string) {
	quote := m.of(`"`, `'`)
	text, value := quote, ""
	for range m.r.Intn(6) {
		c := m.char()
		text += m.written(c, "<&"+quote)
		value += string(c)
	}
	return text + quote, value
}

// nothing puts what stands for nothing.
func (m *maker) nothing() {
	m.text += m.of("<!-- x -->", "<!---->", "<!-- - <a> &x; -->", "<?a?>", "<?xml version='1.0'?>", "<?b <!-- ?>", "<![CDATA[]]>")
}

// more goes on with a run, outside of all by layout alone.
func (m *maker) more() {
	for range m.r.Intn(5) {
		m.mark(-1)
		c := m.char()
		if len(m.open) == 0 {
			c = []rune{' ', '\n', '\r', '\t'}[m.r.Intn(4)]
		}
		switch n := m.r.Intn(8); {
		case n == 0:
			m.nothing()
		case n == 1:
			m.text += "<![CDATA[" + string(c) + "]]>"
			m.run += string(c)
		default:
			m.text += m.written(c, "<&")
			m.run += string(c)
		}
	}
	m.mark(-1)
}

// tell ends a run.
func (m *maker) tell() {
	if m.run != "" && len(m.open) > 0 {
		m.told = append(m.told, words(m.run))
	}
	m.run = ""
}

func (m *maker) element() {
	m.tell()
	name := m.name()
	piece := start(name)
	m.text += "<" + name
	m.mark(0)
	many := m.r.Intn(4)
	if m.r.Intn(10) == 0 {
		many = api.MaxAttrs - m.r.Intn(2)
	}
	for i := range many {
		text, value := m.value()
		key := "k" + strconv.Itoa(i) + m.of("", ".", "-", ":", "_")
		m.text += m.of(" ", "\n", "\t ") + key + m.space() + "=" + m.space() + text
		piece.Attrs = append(piece.Attrs, api.Attr{Name: key, Value: value})
		m.mark(len(piece.Attrs))
	}
	m.told = append(m.told, piece)
	m.done = true
	if m.r.Intn(3) == 0 && (!m.deep || len(m.open) == api.MaxDepth-1) {
		m.text += m.space() + "/>"
		m.told = append(m.told, end(name))
		return
	}
	m.text += m.space() + ">"
	m.open = append(m.open, name)
	m.more()
	elements := m.r.Intn(4)
	if m.deep {
		elements = 1
	}
	for range elements {
		if len(m.open) < api.MaxDepth {
			m.element()
			m.more()
		}
	}
	m.tell()
	m.open = m.open[:len(m.open)-1]
	m.text += "</" + name + m.space() + ">"
	m.told = append(m.told, end(name))
}

// made is a text that is right, and not too long.
func made(r *rand.Rand) *maker {
	for {
		m := &maker{r: r, deep: r.Intn(6) == 0}
		m.more()
		m.element()
		m.more()
		if len(m.text) < 3000 {
			return m
		}
	}
}

// somewhere is a place, with some luck one where there is just as much as may be.
func (m *maker) somewhere() place {
	p := m.all[m.r.Intn(len(m.all))]
	for range 8 {
		if p.depth < api.MaxDepth && p.attrs < api.MaxAttrs {
			p = m.all[m.r.Intn(len(m.all))]
		}
	}
	return p
}

// broken is something wrong that may be put at a place, and its error; OK: it is not wrong there.
func (m *maker) broken(p place) (text string, err api.Errno, told []api.Piece) {
	if p.attrs >= 0 {
		text = m.of(" y='&x;'", " y='<'", " y", " k0='1'", "\x00", "'", "<", " / >", " =", "y='1'", " y='\x01'", " 1='1'", " y=1", " y='1")
		switch {
		case strings.HasPrefix(text, " y") && p.attrs == api.MaxAttrs:
			return text, api.ErrXmlLong, p.told
		case text == " y='&x;'":
			return text, api.ErrXmlEntity, p.told
		case text == " k0='1'" || text == "y='1'" || text == " y" || text == " y='1":
			// Right or wrong as what stands behind it, or ahead of it, is.
			return text, api.OK, nil
		}
		return text, api.ErrXmlForm, p.told
	}
	text = m.of("&x;", "&#0;", "&#xd800;", "\x00", "<!x>", "<!-- -- -->", "<? x?>", "<![CDATA[\x02]]>", "</zz>", "</zz x>", "<1>", "< a>", "<zz ", "<zz1 y='&x;'/>")
	whole := p.told
	if p.run != "" && p.depth > 0 {
		whole = append(whole, words(p.run))
	}
	switch text {
	case "&x;", "&#0;", "&#xd800;":
		return text, api.ErrXmlEntity, p.told
	case "\x00", "<!x>", "<!-- -- -->", "<? x?>", "<![CDATA[\x02]]>":
		return text, api.ErrXmlForm, p.told
	case "</zz>":
		return text, api.ErrXmlNest, whole
	case "<zz ", "<zz1 y='&x;'/>":
		switch {
		case p.depth == api.MaxDepth:
			return text, api.ErrXmlDeep, whole
		case p.depth == 0 && p.done:
			return text, api.ErrXmlForm, whole
		case text == "<zz ":
			return text, api.OK, nil
		}
		return text, api.ErrXmlEntity, whole
	}
	return text, api.ErrXmlForm, whole
}

// P10.2, P10.3, P10.6: many texts that are right, and each of them with something wrong in it, and cut off.
func TestMany(t *testing.T) {
	r := rand.New(rand.NewSource(10))
	had := map[api.Errno]int{}
	for range 600 {
		m := made(r)
		reads(t, m.text, m.told...)
		brackets(t, m.text)
		for range 12 {
			p := m.somewhere()
			text, err, told := m.broken(p)
			if err == api.OK {
				continue
			}
			had[err]++
			refuses(t, m.text[:p.at]+text+m.text[p.at:], err, told...)
			refuses(t, m.text[:p.at]+text, err, told...)
		}
		n := r.Intn(len(m.text))
		leadsTo(t, m.text[:n], m.text)
	}
	for _, err := range []api.Errno{api.ErrXmlForm, api.ErrXmlNest, api.ErrXmlDeep, api.ErrXmlEntity, api.ErrXmlLong} {
		if had[err] < 10 {
			t.Errorf("no more than %d of %d", had[err], err)
		}
	}
}

// brackets asks whether starts and ends stand as brackets do.
func brackets(t *testing.T, text string) {
	t.Helper()
	l, err := xmlpull.All(text)
	if err != api.OK {
		return
	}
	var open []string
	for i, p := range l {
		switch p.Kind {
		case api.XStart:
			open = append(open, p.Name)
		case api.XEnd:
			if len(open) == 0 || open[len(open)-1] != p.Name {
				t.Errorf("%q: end %s at %d of %q", cut(text), p.Name, i, open)
				return
			}
			open = open[:len(open)-1]
		case api.XText:
			if len(open) == 0 || p.Text == "" || l[i-1].Kind == api.XText {
				t.Errorf("%q: text %q at %d", cut(text), p.Text, i)
			}
		default:
			t.Errorf("%q: %v at %d", cut(text), p, i)
		}
	}
	if len(open) > 0 || len(l) == 0 || l[0].Kind != api.XStart {
		t.Errorf("%q: %q are open at the end", cut(text), open)
	}
}

// leadsTo asks whether what is told of a text's beginning is told of the text, but for a text that may go on.
func leadsTo(t *testing.T, part, text string) {
	t.Helper()
	l, err := xmlpull.All(part)
	m, whole := xmlpull.All(text)
	if n := len(l); n > 0 && l[n-1].Kind == api.XText {
		l = l[:n-1]
	}
	if len(l) > len(m) || !slices.EqualFunc(l, m[:len(l)], same) {
		t.Errorf("%q: %v, but of %q %v", cut(part), l, cut(text), m)
	}
	if err == api.ErrXmlNest && whole != err {
		t.Errorf("%q: %d, but of %q %d", cut(part), err, cut(text), whole)
	}
}
