package debctl_test

import (
	"math/rand"
	"regexp"
	"strings"
	"testing"

	"chandler/api"
	"chandler/debctl"
	"chandler/pool"
)

// What section Words and P12.2 say, as patterns.
var (
	emptyLine = regexp.MustCompile(`^[ \t]*$`)
	goingOn   = regexp.MustCompile(`(?s)^[ \t]+(.*?)[ \t]*$`)
	beginning = regexp.MustCompile(`(?s)^([^: \t]+):[ \t]*(.*?)[ \t]*$`)
	piece     = regexp.MustCompile(`(?s)^[ \t]*([^ \t(]+)[ \t]*(?:\([ \t]*(<<|=|<=|>>|>=)[ \t]*([^ \t)]+)[ \t]*\)[ \t]*)?$`)
)

// oracle is what P12.1 says of a text.
func oracle(text string) ([]api.Package, api.Errno) {
	if len(text) > 40000 {
		return nil, api.ErrDebLong
	}
	all := strings.Split(text, "\n")
	if all[len(all)-1] == "" {
		all = all[:len(all)-1]
	}
	var out []api.Package
	had, last := map[string]string{}, ""
	for n, line := range append(all, "") {
		_, there := had[last]
		on, begins := goingOn.FindStringSubmatch(line), beginning.FindStringSubmatch(line)
		switch {
		case emptyLine.MatchString(line):
			if len(had) == 0 {
				continue
			}
			if len(out) == 200 {
				return nil, api.ErrDebMany
			}
			p, err := packed(had)
			if err != api.OK {
				return nil, err
			}
			out, had, last = append(out, p), map[string]string{}, ""
		case line[0] == '#' && n < len(all):
		case on != nil && there:
			had[last] += " " + on[1]
		case on == nil && begins != nil:
			last = begins[1]
			if _, twice := had[last]; twice {
				return nil, api.ErrDebForm
			}
			had[last] = begins[2]
		default:
			return nil, api.ErrDebForm
		}
	}
	return out, api.OK
}

// packed is the package of fields.
func packed(had map[string]string) (api.Package, api.Errno) {
	p := api.Package{Name: had["Package"], Evr: had["Version"], Arch: had["Architecture"], Vendor: had["Origin"]}
	if p.Arch == "all" {
		p.Arch = "noarch"
	}
	for _, f := range relatedFields() {
		l, is := relations(had[f.name])
		if !is {
			return p, api.ErrDebForm
		}
		*f.in(&p) = append(*f.in(&p), l...)
	}
	return p, pool.Check(p)
}

func relations(text string) ([]api.Dep, bool) {
	var out []api.Dep
	if text == "" {
		return nil, true
	}
	for _, part := range strings.Split(text, ",") {
		d := api.Dep{Kind: api.DOr}
		for _, p := range strings.Split(part, "|") {
			m := piece.FindStringSubmatch(p)
			if m == nil {
				return nil, false
			}
			d.Args = append(d.Args, compared(m[1], signs()[m[2]], m[3]))
		}
		if len(d.Args) == 1 {
			d = d.Args[0]
		}
		out = append(out, d)
	}
	return out, true
}

func oneOf(r *rand.Rand, texts ...string) string {
	return texts[r.Intn(len(texts))]
}

// wild tells stanzas, of which now and then something is not as it should be.
type wild struct {
	r    *rand.Rand
	rare int // one of so many is not
}

func (w wild) of(texts ...string) string {
	return oneOf(w.r, texts...)
}

func (w wild) strange() bool {
	return w.r.Intn(w.rare) == 0
}

func (w wild) space() string {
	return w.of("", "", "", " ", " ", "\t", " \t")
}

func (w wild) piece() string {
	if w.strange() {
		return w.of("", "(", "b (", "b (1)", "b (> 1)", "b c", "b (= 1) c", "b (= 1", "and", "b)", "b (=)", "b (= 1))", "b(x)", "ä", "b (== 1)", "b (=1 2)", "b (= ä)", "(= 1)", "b (<<)")
	}
	name := w.of("b", "c", "lib-d", "/e", "b:any")
	if w.r.Intn(2) == 0 {
		return w.space() + name + w.space()
	}
	return w.space() + name + w.space() + "(" + w.space() + w.of("<<", "=", "<=", ">>", ">=") + w.space() + w.of("1", "2-1", "1:1") + w.space() + ")" + w.space()
}

func (w wild) relations(names bool) string {
	var parts []string
	for range w.r.Intn(4) {
		part := w.piece()
		for !names && w.r.Intn(3) == 0 {
			part += "|" + w.piece()
		}
		parts = append(parts, part)
	}
	return strings.Join(parts, ",")
}

func (w wild) field(name string) string {
	text := map[string]string{"Package": "a", "Version": "1-2", "Architecture": w.of("all", "all", "i386", "noarch"), "Origin": "v w"}[name]
	switch name {
	case "Provides":
		text = w.of("", "b", "b (= 1)", "b, c(=2)", "b (>= 1)", "b | c")
	case "Replaces":
		text = w.relations(true)
	case "Depends", "Pre-Depends", "Conflicts", "Breaks", "Recommends", "Enhances":
		text = w.relations(false)
	}
	if name == "Origin" && w.r.Intn(30) == 0 {
		text = w.of("\x7f", strings.Repeat("v", 61), "v\tw")
	}
	if w.strange() {
		text = w.of("", " ", "(", "x", "X y", "1:", "\x7f", "ä", text+"\r", strings.Repeat("x", 61), "a\tb")
	}
	if w.strange() {
		name = w.of("", " "+name, name+" ", strings.ToLower(name), "x", "x y", "#"+name, "Package", "Depends")
	}
	return name + w.of(":", ":", ": ", ": ", ":\t") + text + w.space()
}

// broken is a field's line that goes on in another one here and there; those that a package must have seldom do.
func (w wild) broken(line string) string {
	name, said, is := strings.Cut(line, ":")
	often := 2
	if strings.Contains(must, name) {
		often = w.rare
	}
	if !is || w.r.Intn(often) > 0 {
		return line
	}
	at := w.r.Intn(len(said) + 1)
	if emptyLine.MatchString(said[at:]) && !w.strange() {
		return line
	}
	out := name + ":" + said[:at] + "\n"
	if w.r.Intn(4) == 0 {
		out += w.of("#\n", "# x\n", "#: (\n")
	}
	return out + w.of(" ", "\t", "  ", " \t") + said[at:]
}

func (w wild) stanza() string {
	fields := []string{"Package", "Version", "Architecture"}
	for _, name := range []string{"Origin", "Provides", "Depends", "Pre-Depends", "Conflicts", "Breaks", "Replaces", "Recommends", "Enhances", "Description", "X-Other"} {
		if w.r.Intn(4) == 0 {
			fields = append(fields, name)
		}
	}
	w.r.Shuffle(len(fields), func(i, j int) { fields[i], fields[j] = fields[j], fields[i] })
	if w.strange() {
		fields = fields[1:]
	}
	out := ""
	for _, name := range fields {
		out += w.broken(w.field(name)) + "\n"
		if w.strange() {
			out += w.of("", " ", "#", "# x", " x", "x", "x: y", "x:", ":", "\t", "\r", " #") + "\n"
		}
	}
	return out
}

func (w wild) text() string {
	out := w.of("", "", "\n", "# x\n")
	for range w.r.Intn(5) {
		out += w.stanza() + w.of("\n", "\n", " \n", "\n\n", "\t\n# x\n", "\n \n")
	}
	if w.r.Intn(2) == 0 {
		out = strings.TrimRight(out, " \t\n")
	}
	return out
}

// mangled is a text of which some bytes are not what they were.
func mangled(r *rand.Rand, text string) string {
	at := r.Intn(len(text) + 1)
	to := min(len(text), at+r.Intn(8))
	switch r.Intn(4) {
	case 0:
		return text[:at]
	case 1:
		return text[:at] + text[to:]
	case 2:
		return text[:at] + oneOf(r, "\n", "\n\n", "\n ", " ", "\t", ":", "#", "\n#", "(", ")", ",", "|", "=", "<", ">", "x", "\x00", "\xff", "\r\n") + text[at:]
	}
	other := r.Intn(len(text) + 1)
	return text[:at] + text[min(at, other):to] + text[to:]
}

// P12.1, P12.2: many texts, right ones and wrong ones, are answered as the promises say of them.
func TestOracle(t *testing.T) {
	r := rand.New(rand.NewSource(21))
	had := map[api.Errno]int{}
	for i := range 30000 {
		text := wild{r, 5 + i%500}.text()
		if r.Intn(3) == 0 {
			text = mangled(r, text)
		}
		l, e := oracle(text)
		tells(t, text, l, e)
		rewrites(t, text)
		had[e]++
		if e == api.OK && len(l) == 0 {
			had[-1]++
		}
		if t.Failed() {
			return
		}
	}
	if had[api.OK] < had[-1]+2000 {
		t.Errorf("no more than %d are right, of which %d have no packages", had[api.OK], had[-1])
	}
	for _, e := range []api.Errno{api.ErrDebForm, api.ErrPoolName, api.ErrPoolEvr, api.ErrPoolArch, api.ErrPoolVendor, api.ErrPoolDeps} {
		if had[e] < 100 {
			t.Errorf("no more than %d of %d", had[e], e)
		}
	}
}

// P12.2: many texts of relations, made of the bytes that mean something there.
func TestManyRelationTexts(t *testing.T) {
	r := rand.New(rand.NewSource(22))
	right := 0
	for range 40000 {
		text := must + "Depends:"
		for range r.Intn(12) {
			text += oneOf(r, "b", "c", "(", ")", "(", ")", "=", "<", ">", "<<", ">=", "1", "1-2", " ", "\t", ",", "|", "\n ", "(= 1)", "b (>= 2)", "\xff")
		}
		l, e := oracle(text)
		tells(t, text, l, e)
		if e == api.OK && len(l[0].Requires) > 0 {
			right++
		}
	}
	if right < 1000 {
		t.Errorf("no more than %d are right", right)
	}
}

// R1: any bytes are answered, and of the same bytes always the same.
func TestAnyBytes(t *testing.T) {
	r := rand.New(rand.NewSource(23))
	const some = "\n\n \t:#x(=1)|,<>-"
	for range 20000 {
		b := make([]byte, r.Intn(60))
		for i := range b {
			b[i] = some[r.Intn(len(some))]
			if r.Intn(8) == 0 {
				b[i] = byte(r.Intn(256))
			}
		}
		for _, text := range []string{string(b), must + string(b), lines("Depends: " + string(b)), lines("Origin:" + string(b))} {
			l, e := oracle(text)
			tells(t, text, l, e)
			if m, f := debctl.Parse(text); f != e || !same(l, m) {
				t.Errorf("%q: %v, %d", text, m, f)
			}
		}
	}
}
