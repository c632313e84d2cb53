package xmlpull_test

import (
	"math/rand"
	"regexp"
	"strconv"
	"strings"
	"testing"
	"unicode/utf8"

	"chandler/api"
)

// patterns say by regular expressions what the chapter says by words. A text is gone through as Latin-1, so that each byte is a character.
var patterns = func() map[string]*regexp.Regexp {
	out := map[string]*regexp.Regexp{}
	for name, text := range map[string]string{
		"plain":   `[^<&\x00-\x08\x0b\x0c\x0e-\x1f]+`,
		"named":   `&(lt|gt|amp|quot|apos);`,
		"decimal": `&#([0-9]{1,7});`,
		"hex":     `&#x([0-9a-fA-F]{1,6});`,
		"data":    `<!\[CDATA\[((?:[^\x00-\x08\x0b\x0c\x0e-\x1f])*?)\]\]>`,
		"comment": `<!--(?:[^-\x00-\x08\x0b\x0c\x0e-\x1f]|-[^-\x00-\x08\x0b\x0c\x0e-\x1f])*-->`,
		"command": `<\?([A-Za-z_][A-Za-z0-9_.:-]*)(?:[^\x00-\x08\x0b\x0c\x0e-\x1f])*?\?>`,
		"start":   `<([A-Za-z_][A-Za-z0-9_.:-]*)`,
		"name":    `[\t\n\r ]+([A-Za-z_][A-Za-z0-9_.:-]*)`,
		"equals":  `[\t\n\r ]*=[\t\n\r ]*(["'])`,
		`"`:       `[^"<&\x00-\x08\x0b\x0c\x0e-\x1f]+`,
		`'`:       `[^'<&\x00-\x08\x0b\x0c\x0e-\x1f]+`,
		"whole":   `[\t\n\r ]*>`,
		"short":   `[\t\n\r ]*/>`,
		"end":     `</([A-Za-z_][A-Za-z0-9_.:-]*)[\t\n\r ]*>`,
		"layout":  `[\t\n\r ]*$`,
	} {
		out[name] = regexp.MustCompile(`(?s)\A(?:` + text + `)`)
	}
	return out
}()

// oracle tells of a text what the chapter's words ask for, another way than the program goes.
type oracle struct {
	rest string
	last string // what the last pattern that fitted had in parentheses
	told []api.Piece
	open []string
	one  bool
}

func (o *oracle) fits(pattern string) bool {
	m := patterns[pattern].FindStringSubmatch(o.rest)
	if m == nil {
		return false
	}
	o.rest, o.last = o.rest[len(m[0]):], m[0]
	if len(m) > 1 {
		o.last = m[1]
	}
	return true
}

// latin is the bytes of a text of Latin-1.
func latin(s string) string {
	var b strings.Builder
	for _, c := range s {
		b.WriteByte(byte(c))
	}
	return b.String()
}

func (o *oracle) entity() (string, bool) {
	was := o.rest
	switch {
	case o.fits("named"):
		return map[string]string{"lt": "<", "gt": ">", "amp": "&", "quot": `"`, "apos": "'"}[o.last], true
	case o.fits("decimal"), o.fits("hex"):
		base := 10
		if strings.HasPrefix(was, "&#x") {
			base = 16
		}
		n, _ := strconv.ParseInt(o.last, base, 64)
		return string(utf8.AppendRune(nil, rune(n))), mayNumber(int(n))
	}
	return "", false
}

func (o *oracle) run() (string, api.Errno) {
	out := ""
	for {
		switch {
		case o.fits("plain"), o.fits("data"):
			out += latin(o.last)
		case o.fits("comment"):
		case o.fits("command"):
			if len(o.last) > 60 {
				return "", api.ErrXmlForm
			}
		case strings.HasPrefix(o.rest, "&"):
			s, is := o.entity()
			if !is {
				return "", api.ErrXmlEntity
			}
			out += s
		case o.rest == "" || o.rest[0] == '<' && !strings.HasPrefix(o.rest, "<!") && !strings.HasPrefix(o.rest, "<?"):
			return out, api.OK
		default:
			return "", api.ErrXmlForm
		}
	}
}

func (o *oracle) value() (string, api.Errno) {
	quote, out := o.last, ""
	for !strings.HasPrefix(o.rest, quote) {
		if o.fits(quote) {
			out += latin(o.last)
			continue
		}
		if !strings.HasPrefix(o.rest, "&") {
			return "", api.ErrXmlForm
		}
		s, is := o.entity()
		if !is {
			return "", api.ErrXmlEntity
		}
		out += s
	}
	o.rest = o.rest[1:]
	return out, api.OK
}

func (o *oracle) start() api.Errno {
	if !o.fits("start") || len(o.last) > 60 || len(o.open) == 0 && o.one {
		return api.ErrXmlForm
	}
	if len(o.open) == 16 {
		return api.ErrXmlDeep
	}
	p, had := start(o.last), map[string]int{}
	for o.fits("name") {
		a := api.Attr{Name: o.last}
		had[a.Name]++
		switch {
		case len(a.Name) > 60:
			return api.ErrXmlForm
		case len(p.Attrs) == 16:
			return api.ErrXmlLong
		case had[a.Name] == 2 || !o.fits("equals"):
			return api.ErrXmlForm
		}
		v, err := o.value()
		if err != api.OK {
			return err
		}
		a.Value = v
		p.Attrs = append(p.Attrs, a)
	}
	o.one = true
	switch {
	case o.fits("whole"):
		o.told = append(o.told, p)
		o.open = append(o.open, p.Name)
	case o.fits("short"):
		o.told = append(o.told, p, end(p.Name))
	default:
		return api.ErrXmlForm
	}
	return api.OK
}

func (o *oracle) end() api.Errno {
	if !o.fits("end") || len(o.last) > 60 {
		return api.ErrXmlForm
	}
	n := len(o.open)
	if n == 0 || o.open[n-1] != o.last {
		return api.ErrXmlNest
	}
	o.open = o.open[:n-1]
	o.told = append(o.told, end(o.last))
	return api.OK
}

// step goes on to the next tag, and through it; true: all is read.
func (o *oracle) step() (bool, api.Errno) {
	s, err := o.run()
	if err != api.OK {
		return false, err
	}
	if len(o.open) > 0 && s != "" {
		o.told = append(o.told, words(s))
	}
	if len(o.open) == 0 && !patterns["layout"].MatchString(s) {
		return false, api.ErrXmlForm
	}
	if o.rest == "" {
		if len(o.open) > 0 || !o.one {
			return false, api.ErrXmlForm
		}
		return true, api.OK
	}
	if strings.HasPrefix(o.rest, "</") {
		return false, o.end()
	}
	return false, o.start()
}

func asked(text string) ([]api.Piece, api.Errno) {
	var b strings.Builder
	for i := range len(text) {
		b.WriteRune(rune(text[i]))
	}
	o := oracle{rest: b.String()}
	for {
		if done, err := o.step(); done || err != api.OK {
			return o.told, err
		}
	}
}

// agrees asks whether a text has just the pieces, or the error, that the chapter's words ask for.
func agrees(t *testing.T, text string) api.Errno {
	t.Helper()
	want, err := asked(text)
	tells(t, text, want, err)
	brackets(t, text)
	return err
}

// bits are pieces of texts: with some luck, some of them behind one another are right.
func bits() []string {
	return []string{
		"<a>", "<a>", "<b>", "</a>", "</a>", "</b>", "<a/>", "<b/>", "<a x='1'>", "<a x=\"&lt;\" y='2'/>", "<!-- x -->", "<!--", "-->", "--", "<![CDATA[", "]]>", "<?a", "?>", "<?a b?>", "&lt;", "&#65;", "&#x41;", "&#32;", "&x;", "&",
		"<", ">", "/", "/>", "</", "a", "b", "x", "=", "'", "\"", "x='1'", " x='1'", " y='2'", " ", "\n", "\t", "\r", "!", "?", "-", "]", "[", ";", "#", "1", ":", "_", "\x00", "\x1f", "\x7f", "\xff", "é", "<a ", "<a x='", "&#0;", "&#xd800;", "&#x10ffff;",
		"<d" + attrs17()[:len(attrs17())-len(" q='1'")], attrs17(), strings.Repeat("<c>", 7), strings.Repeat("<c>", 15), strings.Repeat("</c>", 15), strings.Repeat("n", 30), strings.Repeat("m", 31),
	}
}

// P10.1 to P10.4: many texts of such pieces.
func TestManyBits(t *testing.T) {
	r := rand.New(rand.NewSource(100))
	had := map[api.Errno]int{}
	for range 30000 {
		s := ""
		if r.Intn(2) == 0 {
			s = "<a>"
		}
		for range r.Intn(10) {
			s += bits()[r.Intn(len(bits()))]
		}
		if r.Intn(2) == 0 {
			s += "</a>"
		}
		had[agrees(t, s)]++
	}
	for _, err := range []api.Errno{api.OK, api.ErrXmlForm, api.ErrXmlNest, api.ErrXmlDeep, api.ErrXmlEntity, api.ErrXmlLong} {
		if had[err] < 20 {
			t.Errorf("no more than %d of %d", had[err], err)
		}
	}
}

// P10.1 to P10.4: many right texts, turned: cut, doubled, put together, with other bytes and pieces in them.
func TestManyTurned(t *testing.T) {
	r := rand.New(rand.NewSource(1000))
	other := made(r).text
	for range 600 {
		s := made(r).text
		agrees(t, s)
		for range 10 {
			text := turned(r, s, other)
			if r.Intn(3) == 0 {
				text = turned(r, text, other)
			}
			agrees(t, text)
		}
		other = s
	}
}

// turned is a text in which one thing is otherwise.
func turned(r *rand.Rand, s, other string) string {
	from, to := r.Intn(len(s)+1), r.Intn(len(s)+1)
	if from > to {
		from, to = to, from
	}
	if r.Intn(2) == 0 {
		to = min(to, from+1+r.Intn(3))
	}
	switch r.Intn(6) {
	case 0:
		return s[:from] + s[to:]
	case 1:
		return s[:to] + s[from:]
	case 2:
		return s[:from] + other[r.Intn(len(other)):]
	case 3:
		return s[:from] + string([]byte{byte(r.Intn(256))}) + s[to:]
	case 4:
		return s[:from] + "<!x"[:r.Intn(4)] + s[from:]
	}
	return s[:from] + bits()[r.Intn(len(bits()))] + s[from:]
}

// P10.1 to P10.4: all texts of a few bytes that mean something, in an element and outside of all.
func TestAllShort(t *testing.T) {
	const some = "<>/!?-a=' &;"
	for n := range len(some) * len(some) * len(some) * len(some) {
		s := ""
		for m := n; m > 0; m /= len(some) {
			s += some[m%len(some) : m%len(some)+1]
		}
		agrees(t, []string{s, "<a>" + s, "<a " + s}[n%3])
	}
}
