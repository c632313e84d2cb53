package rpmmd_test

import (
	"math/rand"
	"slices"
	"strconv"
	"strings"
	"testing"

	"chandler/api"
	"chandler/pool"
	"chandler/rpmmd"
)

func oneOf(r *rand.Rand, texts ...string) string {
	return texts[r.Intn(len(texts))]
}

func anyName(r *rand.Rand) string {
	if r.Intn(6) == 0 {
		return "n" + strings.Repeat("x", r.Intn(api.MaxName-1))
	}
	return oneOf(r, "a", "b", "1", "noarch", "/f", "lib(x)(64bit)", "&", "<a>", "]]>", `"'`, "!")
}

func anyVersion(r *rand.Rand) string {
	return oneOf(r, "1", "1-1", "00:1", "2:1.0~a-3", "a", strings.Repeat("9", api.MaxEvr), "1-2-3", strconv.Itoa(r.Intn(1000)))
}

func anyArch(r *rand.Rand) string {
	return oneOf(r, "noarch", "x86_64", "i586", "a")
}

// anyOp is a comparison that has flags.
func anyOp(r *rand.Rand) int {
	return []int{1, 2, 3, 4, 6}[r.Intn(5)]
}

// anyDep is a dependency of no more than so many names.
func anyDep(r *rand.Rand, names int, alone bool) api.Dep {
	if names < 3 || r.Intn(3) == 0 {
		switch {
		case r.Intn(2) == 0:
			return named(anyName(r))
		case alone:
			return compared(anyName(r), anyOp(r), anyVersion(r))
		}
		return compared(anyName(r), 1+r.Intn(7), oneOf(r, "0:1", anyVersion(r)))
	}
	kind := api.DAnd + r.Intn(5)
	args := 2
	if kind == api.DIf && r.Intn(2) == 0 {
		args = 3
	} else if kind <= api.DOr || kind == api.DWith {
		args = 2 + r.Intn(names-1)
	}
	d := api.Dep{Kind: kind}
	for range args {
		if kind >= api.DWith {
			d.Args = append(d.Args, named(anyName(r)))
		} else {
			d.Args = append(d.Args, anyDep(r, names/args, false))
		}
	}
	return d
}

func anyPackage(r *rand.Rand) api.Package {
	p := api.Package{Name: anyName(r), Evr: anyVersion(r), Arch: anyArch(r), Vendor: oneOf(r, "", "", "v", "v  & w", "<v>")}
	for _, l := range depLists() {
		for range r.Intn(4) * r.Intn(3) {
			d := anyDep(r, 1+r.Intn(api.MaxDepParts), true)
			if l.ofNames() {
				d = compared(anyName(r), 2, anyVersion(r))
			}
			if r.Intn(4) == 0 {
				d = named(anyName(r))
			}
			*l.in(&p) = append(*l.in(&p), d)
		}
	}
	for range r.Intn(3) * r.Intn(3) {
		p.Files = append(p.Files, oneOf(r, "/", "/f", "/a/b", "/<&>"))
	}
	return p
}

func anyPackages(r *rand.Rand) []api.Package {
	var out []api.Package
	for range r.Intn(6) {
		out = append(out, anyPackage(r))
	}
	return out
}

// P11.3, P11.4: many packages are written, and read as they are.
func TestManyWritten(t *testing.T) {
	r := rand.New(rand.NewSource(11))
	seen := map[string][]api.Package{}
	for range 3000 {
		l := anyPackages(r)
		text := writes(t, l...)
		rewrites(t, text)
		if m, there := seen[text]; there && !same(l, m) {
			t.Errorf("%+v is written as %+v", l, m)
		}
		seen[text] = l
		if len(l) == 0 {
			continue
		}
		wrong := slices.Clone(l)
		p := &wrong[r.Intn(len(l))]
		p.Conflicts = append(slices.Clone(p.Conflicts), compared("b", 5+2*r.Intn(2), "1"))
		keeps(t, api.ErrMdForm, wrong...)
		p = &wrong[r.Intn(len(l))]
		p.Arch = ""
		keeps(t, api.ErrPoolArch, wrong...)
	}
}

// teller tells packages as XML in many ways.
type teller struct {
	r *rand.Rand
}

func (w teller) of(texts ...string) string {
	return oneOf(w.r, texts...)
}

// noise is something that is left out wherever it stands between elements.
func (w teller) noise() string {
	if w.r.Intn(3) > 0 {
		return ""
	}
	return w.of(" ", "\n\t", "<!-- <name>z</name> -->", "<?z?>", "<x/>", "text &amp; more", "<x><name>z</name><file>z</file></x>", `<location href="z"/>`, "<summary>z</summary>", `<x flags="XX" name="("/>`, `<x><x><package type="rpm"/></x></x>`, "<![CDATA[<x>]]>", "<metadata/>")
}

// escaped is a text in one of the ways to write it, in a value or not.
func (w teller) escaped(text string) string {
	entities := map[byte]string{'&': "&amp;", '<': "&lt;", '"': "&quot;", '\'': "&apos;"}
	var b strings.Builder
	for i := range len(text) {
		c := text[i]
		e, is := entities[c]
		switch {
		case w.r.Intn(12) == 0:
			b.WriteString("&#" + strconv.Itoa(int(c)) + ";")
		case w.r.Intn(12) == 0:
			b.WriteString("&#x" + strconv.FormatInt(int64(c), 16) + ";")
		case is:
			b.WriteString(e)
		default:
			b.WriteByte(c)
		}
	}
	return b.String()
}

// said is an element's text.
func (w teller) said(name, text string) string {
	at := w.r.Intn(len(text) + 1)
	out := w.escaped(text[:at]) + w.of("", "", "", "<!-- z -->", "<x>z</x>", "<?z?>", "<![CDATA[]]>", "<"+name+">z</"+name+">") + w.escaped(text[at:])
	space := func() string { return w.of("", "", " ", "\n\t ", "&#32;", "<![CDATA[ ]]>") }
	return "<" + name + ">" + space() + out + space() + "</" + name + ">"
}

// attrs are attributes in any order, among others.
func (w teller) attrs(pairs ...string) string {
	var all []string
	for i := 0; i < len(pairs); i += 2 {
		if pairs[i+1] != "" || w.r.Intn(3) == 0 {
			quote := w.of(`"`, "'")
			all = append(all, pairs[i]+w.of("", " ")+"="+w.of("", " ")+quote+w.escaped(pairs[i+1])+quote)
		}
	}
	if w.r.Intn(4) == 0 {
		all = append(all, w.of("x='XX'", "rpm:name='('", "Flags='XX'"))
	}
	w.r.Shuffle(len(all), func(i, j int) { all[i], all[j] = all[j], all[i] })
	return " " + strings.Join(all, w.of(" ", "\n"))
}

// versioned is attributes that tell a version: where it is cut is told by what is left of it.
func (w teller) versioned(version string) []string {
	if version == "" {
		return nil
	}
	out := []string{"epoch", w.of("", "0"), "ver", version}
	if epoch, rest, is := strings.Cut(version, ":"); is {
		out = []string{"epoch", epoch, "ver", rest}
	}
	if at := strings.LastIndex(out[3], "-"); at >= 0 && w.r.Intn(3) > 0 {
		return append(out[:3:3], out[3][:at], "rel", out[3][at+1:])
	}
	return out
}

func (w teller) empty(name string, attrs ...string) string {
	if w.r.Intn(4) == 0 {
		return "<" + name + w.attrs(attrs...) + ">" + w.noise() + "</" + name + ">"
	}
	return "<" + name + w.attrs(attrs...) + "/>"
}

// depText is the text of a dependency that is made of others.
func depText(d api.Dep) string {
	if d.Kind == api.DName {
		if d.Op == 0 {
			return d.Name
		}
		return d.Name + " " + []string{"", "<", "=", "<=", ">", "<>", ">=", "<=>"}[d.Op] + " " + d.Evr
	}
	words := map[int][]string{api.DAnd: {" and "}, api.DOr: {" or "}, api.DIf: {" if ", " else "}, api.DWith: {" with "}, api.DWithout: {" without "}}[d.Kind]
	out := "(" + depText(d.Args[0])
	for i, a := range d.Args[1:] {
		out += words[min(i, len(words)-1)] + depText(a)
	}
	return out + ")"
}

func (w teller) entry(l depList, d api.Dep) string {
	pre := l.pre
	if l.name != "rpm:requires" {
		pre = w.of("", "1", "0")
	} else if pre == "" {
		pre = w.of("", "0", "01")
	}
	if d.Kind != api.DName {
		return w.empty("rpm:entry", "name", depText(d), "pre", pre, "flags", w.of("", "XX", "GE"))
	}
	flags := []string{"", "LT", "EQ", "LE", "GT", "", "GE"}[d.Op]
	return w.empty("rpm:entry", append(w.versioned(d.Evr), "name", d.Name, "flags", flags, "pre", pre)...)
}

// lists are a package's dependencies and files: each list in order, but otherwise one among the other.
func (w teller) lists(p api.Package) []string {
	var all []string
	at := map[string]int{}
	for range 30 {
		l := depLists()[w.r.Intn(7)]
		rest := (*l.in(&p))[at[l.name+l.pre]:]
		n := w.r.Intn(len(rest) + 1)
		text := "<" + l.name + ">"
		for _, d := range rest[:n] {
			text += w.noise() + w.entry(l, d)
		}
		at[l.name+l.pre] += n
		if n > 0 || w.r.Intn(20) == 0 {
			all = append(all, text+w.noise()+"</"+l.name+">")
		}
		if files := at["file"]; files < len(p.Files) && w.r.Intn(4) == 0 {
			all = append(all, w.said("file", p.Files[files]))
			at["file"]++
		}
	}
	for _, l := range depLists() {
		text := "<" + l.name + ">"
		for _, d := range (*l.in(&p))[at[l.name+l.pre]:] {
			text += w.entry(l, d)
		}
		all = append(all, text+"</"+l.name+">")
	}
	for _, path := range p.Files[at["file"]:] {
		all = append(all, w.said("file", path))
	}
	return all
}

func (w teller) pack(p api.Package) string {
	inFormat := w.lists(p)
	vendor := w.r.Intn(len(inFormat) + 1)
	if p.Vendor != "" || w.r.Intn(2) == 0 {
		inFormat = slices.Insert(inFormat, vendor, w.said("rpm:vendor", p.Vendor))
		if w.r.Intn(3) == 0 {
			inFormat = slices.Insert(inFormat, w.r.Intn(vendor+1), w.said("rpm:vendor", "z"))
		}
	}
	parts := []string{w.said("name", p.Name), w.said("arch", p.Arch), w.empty("version", w.versioned(p.Evr)...)}
	if w.r.Intn(4) == 0 {
		parts = append(parts, w.of("<name>z</name>", "<arch>Z</arch>", "<version ver='9' epoch='9' rel='9'/>"), parts[0], parts[1], parts[2])
	}
	format := "<format>"
	for _, s := range inFormat {
		format += w.noise() + s
		if w.r.Intn(20) == 0 {
			format += "</format>" + w.noise() + "<format>"
		}
	}
	parts = slices.Insert(parts, w.r.Intn(len(parts)+1), format+w.noise()+"</format>")
	text := "<package" + w.attrs("type", "rpm") + ">"
	for _, s := range parts {
		text += w.noise() + s
	}
	return text + w.noise() + "</package>"
}

func (w teller) all(l []api.Package) string {
	text := w.of("", `<?xml version="1.0"?>`, " ") + w.of("<metadata>", "<metadata packages='z' >")
	for _, p := range l {
		text += w.noise() + w.pack(p)
		if w.r.Intn(5) == 0 {
			text += w.of("<package>", "<package type='src'>") + w.noise() + must + "</package>"
		}
	}
	return text + w.noise() + "</metadata>"
}

// P11.1, P11.2: many packages, told in many ways, are read as what they are.
func TestManyTold(t *testing.T) {
	r := rand.New(rand.NewSource(12))
	for range 1500 {
		l := anyPackages(r)
		text := teller{r}.all(l)
		if len(text) > api.MaxText {
			continue
		}
		reads(t, text, l...)
		rewrites(t, text)
		if len(text) > 1 {
			cutOff(t, text, l, r.Intn(len(text)))
		}
	}
}

// cutOff asks whether a text that ends too early is wrong, and no earlier than that.
func cutOff(t *testing.T, text string, l []api.Package, n int) {
	t.Helper()
	got, e := rpmmd.Parse(text[:n])
	whole := strings.HasSuffix(strings.TrimRight(text[:n], "\t\n\r "), "</metadata>")
	switch {
	case whole && (e != api.OK || !same(got, l)):
		t.Errorf("%q: %+v, %d", cut(text[:n]), got, e)
	case !whole && e != api.ErrXmlForm && e != api.ErrXmlEntity:
		t.Errorf("%q: %+v, %d", cut(text[:n]), got, e)
	}
}

// P11.1: a text's packages, put behind another one's, are told behind them.
func TestBehind(t *testing.T) {
	r := rand.New(rand.NewSource(13))
	for range 300 {
		l, m := anyPackages(r), anyPackages(r)
		text := "<metadata>"
		for _, p := range slices.Concat(l, m) {
			text += teller{r}.pack(p)
		}
		if len(text) > api.MaxText-20 {
			continue
		}
		reads(t, text+"</metadata>", slices.Concat(l, m)...)
		wrong := anyPackage(r)
		wrong.Evr = "1:"
		if err := pool.Check(wrong); err == api.ErrPoolEvr {
			refuses(t, text+teller{r}.pack(wrong)+"&x;</x>", err)
		}
	}
}
