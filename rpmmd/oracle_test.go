package rpmmd_test

import (
	"math/rand"
	"slices"
	"strings"
	"testing"

	"chandler/api"
	"chandler/dep"
	"chandler/pool"
	"chandler/rpmmd"
	"chandler/xmlpull"
)

// node is an element as a tree has it.
type node struct {
	name       string
	attrs      map[string]string
	kids       []*node
	text       string
	start, end int // the places of its pieces; an end that is not there is behind all
}

// tree is what pieces are, in one node that is none of them.
func tree(pieces []api.Piece) *node {
	top := &node{}
	open := []*node{top}
	for at, p := range pieces {
		in := open[len(open)-1]
		switch p.Kind {
		case api.XStart:
			n := &node{name: p.Name, attrs: map[string]string{}, start: at, end: len(pieces) + 1}
			for _, a := range p.Attrs {
				n.attrs[a.Name] = a.Value
			}
			in.kids = append(in.kids, n)
			open = append(open, n)
		case api.XText:
			in.text += p.Text
		case api.XEnd:
			in.end = at
			open = open[:len(open)-1]
		}
	}
	return top
}

// at are the nodes to which a path of names leads, in order.
func (n *node) at(names ...string) []*node {
	if len(names) == 0 {
		return []*node{n}
	}
	var out []*node
	for _, k := range n.kids {
		if k.name == names[0] {
			out = append(out, k.at(names[1:]...)...)
		}
	}
	return out
}

func (n *node) version() string {
	epoch, rel := n.attrs["epoch"]+":", "-"+n.attrs["rel"]
	if epoch == ":" || epoch == "0:" {
		epoch = ""
	}
	if rel == "-" {
		rel = ""
	}
	return epoch + n.attrs["ver"] + rel
}

func (n *node) words() string {
	return strings.Trim(n.text, " \r\n\t")
}

// wrongs are what is wrong, at its place.
type wrongs map[int]api.Errno

func (w wrongs) add(at int, err api.Errno) {
	if _, there := w[at]; !there && err != api.OK {
		w[at] = err
	}
}

// entry is what P11.2 says of an entry.
func (n *node) entry(w wrongs) api.Dep {
	name, flags := n.attrs["name"], n.attrs["flags"]
	if name != "" && name[0] == '(' {
		d, err := dep.Parse(name)
		if err != api.OK {
			w.add(n.start, api.ErrMdForm)
		}
		return d
	}
	d := api.Dep{Kind: api.DName, Name: name}
	if flags != "" {
		d.Op = map[string]int{"LT": 1, "EQ": 2, "LE": 3, "GT": 4, "GE": 6}[flags]
		d.Evr = n.version()
		if d.Op == 0 {
			w.add(n.start, api.ErrMdForm)
		}
	}
	return d
}

// read is what P11.1 says of a package.
func (n *node) read(w wrongs) api.Package {
	var p api.Package
	for _, k := range n.at("name") {
		p.Name = k.words()
	}
	for _, k := range n.at("arch") {
		p.Arch = k.words()
	}
	for _, k := range n.at("version") {
		p.Evr = k.version()
	}
	for _, k := range n.at("format", "rpm:vendor") {
		p.Vendor = k.words()
	}
	for _, k := range n.at("format", "file") {
		p.Files = append(p.Files, k.words())
	}
	for _, l := range depLists() {
		for _, k := range n.at("format", l.name, "rpm:entry") {
			d := k.entry(w)
			if l.name != "rpm:requires" || (k.attrs["pre"] == "1") == (l.pre == "1") {
				*l.in(&p) = append(*l.in(&p), d)
			}
		}
	}
	return p
}

// oracle is what P11.1 says of a text.
func oracle(text string) ([]api.Package, api.Errno) {
	pieces, err := xmlpull.All(text)
	w := wrongs{}
	w.add(len(pieces), err)
	top := tree(pieces)
	for _, k := range top.kids {
		if k.name != "metadata" {
			w.add(k.start, api.ErrMdForm)
		}
	}
	var out []api.Package
	for _, k := range top.at("metadata", "package") {
		if k.attrs["type"] != "rpm" {
			continue
		}
		if len(out) >= api.MaxPackages {
			w.add(k.start, api.ErrMdMany)
		}
		p := k.read(w)
		out = append(out, p)
		w.add(k.end, pool.Check(p))
	}
	first := len(pieces) + 1
	for at := range w {
		first = min(first, at)
	}
	if first <= len(pieces) {
		return nil, w[first]
	}
	return out, api.OK
}

// wild tells elements where they may be told, and now and then elsewhere.
type wild struct {
	r    *rand.Rand
	rare int // one of so many is not as it should be
}

func (w wild) of(texts ...string) string {
	return oneOf(w.r, texts...)
}

func (w wild) strange() bool {
	return w.r.Intn(w.rare) == 0
}

func (w wild) value(name string) string {
	fine := map[string][]string{
		"name": {"b", "/f", "(b or c)", "(b if c else d)", "lib(x)"}, "flags": {"", "LT", "EQ", "LE", "GT", "GE", "EQ", "EQ"}, "ver": {"1", "2.0", "1-2"}, "rel": {"", "1", "2"},
		"epoch": {"", "0", "1", "00"}, "pre": {"", "1", "0"}, "type": {"rpm"},
	}[name]
	if len(fine) == 0 || w.strange() {
		fine = []string{"", "XX", "(", "(b", " ", "src", "RPM", "(b and c or d)", "-", "1:2", "b c", "&x;", "0:1", "lt"}
	}
	return w.of(fine...)
}

func (w wild) attrs(names ...string) string {
	out := ""
	for _, n := range names {
		switch {
		case w.strange():
			out += " " + w.of("x", n, n, "Name", "rpm:flags") + "='" + w.value(n) + "'"
		case n == "name" || n == "type" || n == "ver" || w.r.Intn(2) == 0:
			out += " " + n + "='" + w.value(n) + "'"
		}
	}
	return out
}

// kids are the elements' names that may be told within an element.
func (w wild) kids(in string) []string {
	switch in {
	case "":
		return []string{"metadata"}
	case "metadata":
		return slices.Repeat([]string{"package"}, w.r.Intn(5))
	case "package":
		out := []string{"name", "arch", "version", "format"}
		if w.strange() {
			out = append(out, w.of(out...))
		}
		if w.strange() {
			out = out[1:]
		}
		return out
	case "format":
		var out []string
		for range w.r.Intn(6) {
			out = append(out, w.of("rpm:vendor", "file", "rpm:provides", "rpm:requires", "rpm:requires", "rpm:conflicts", "rpm:obsoletes", "rpm:recommends", "rpm:supplements"))
		}
		return out
	case "name", "arch", "version", "rpm:vendor", "file", "rpm:entry":
		return nil
	}
	if strings.HasPrefix(in, "rpm:") {
		return slices.Repeat([]string{"rpm:entry"}, w.r.Intn(4))
	}
	return nil
}

func (w wild) words(in string) string {
	fine := map[string]string{"name": "a", "arch": "noarch", "rpm:vendor": "v w", "file": "/f"}[in]
	if w.strange() {
		fine = w.of("", " ", "a b", "(", "/x", "X", "x")
	}
	return w.of("", "", " ", "\n", "&#9;") + fine + w.of("", "", " ")
}

func (w wild) element(name string, depth int) string {
	attrs := map[string][]string{"package": {"type"}, "version": {"epoch", "ver", "rel"}, "rpm:entry": {"name", "flags", "epoch", "ver", "rel", "pre"}}[name]
	out := "<" + name + w.attrs(attrs...) + ">" + w.words(name)
	for _, k := range w.kids(name) {
		if w.strange() {
			k = w.of("metadata", "package", "name", "arch", "version", "format", "rpm:vendor", "file", "rpm:provides", "rpm:requires", "rpm:entry", "x")
		}
		if depth < 12 {
			out += w.element(k, depth+1)
		}
		if w.strange() {
			out += w.words(name)
		}
	}
	if w.strange() && w.strange() {
		return out + w.of("", "</x>", "</package>", "&x;", "<", "<x/>")
	}
	return out + "</" + name + ">"
}

// mangled is a text of which some bytes are not what they were.
func mangled(r *rand.Rand, text string) string {
	at := r.Intn(len(text))
	to := min(len(text), at+r.Intn(12))
	switch r.Intn(4) {
	case 0:
		return text[:at]
	case 1:
		return text[:at] + text[to:]
	case 2:
		return text[:at] + oneOf(r, "<", ">", "&", "'", "/", "x", " ", "\x00", "\xff", "</package>", "<x>", "(", "1") + text[at:]
	}
	other := r.Intn(len(text))
	return text[:at] + text[min(at, other):to] + text[to:]
}

// P11.1, P11.2: many texts, right ones and wrong ones, are answered as the promises say of them as a whole.
func TestOracle(t *testing.T) {
	r := rand.New(rand.NewSource(14))
	had := map[api.Errno]int{}
	for i := range 25000 {
		text := wild{r, 4 + i%60}.element("metadata", 1)
		if r.Intn(40) == 0 {
			text = wild{r, 4}.element(oneOf(r, "package", "x", "format"), 1)
		}
		if r.Intn(3) == 0 {
			text = mangled(r, text)
		}
		l, e := oracle(text)
		tells(t, text, l, e)
		rewrites(t, text)
		had[e]++
		if e == api.OK && len(l) == 0 {
			had[-1]++
		}
		if t.Failed() {
			return
		}
	}
	if had[api.OK] < had[-1]+1000 {
		t.Errorf("no more than %d are right, of which %d have no packages", had[api.OK], had[-1])
	}
	for _, e := range []api.Errno{api.ErrXmlForm, api.ErrXmlNest, api.ErrXmlEntity, api.ErrMdForm, api.ErrPoolName, api.ErrPoolEvr, api.ErrPoolArch, api.ErrPoolDeps, api.ErrPoolFiles} {
		if had[e] < 50 {
			t.Errorf("no more than %d of %d", had[e], e)
		}
	}
}

// R1: any bytes are answered, and of the same bytes always the same.
func TestAnyBytes(t *testing.T) {
	r := rand.New(rand.NewSource(15))
	const some = "<>/&;'\"= ()rpm:x1\n"
	for range 20000 {
		b := make([]byte, r.Intn(60))
		for i := range b {
			b[i] = some[r.Intn(len(some))]
			if r.Intn(8) == 0 {
				b[i] = byte(r.Intn(256))
			}
		}
		for _, text := range []string{string(b), "<metadata>" + string(b), "<metadata><package type='rpm'><format><rpm:requires>" + string(b)} {
			l, e := oracle(text)
			tells(t, text, l, e)
			if m, f := rpmmd.Parse(text); f != e || !same(l, m) {
				t.Errorf("%q: %v, %d", text, m, f)
			}
		}
	}
}
