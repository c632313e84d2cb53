package suse_test

import (
	"math/rand"
	"slices"
	"strconv"
	"strings"
	"testing"

	"chandler/api"
	"chandler/dep"
	"chandler/suse"
)

func someName(r *rand.Rand) string {
	switch r.Intn(8) {
	case 0:
		return "n" + strings.Repeat("x", r.Intn(api.MaxName))
	case 1:
		return oneOf(r, "-", "+", "=", "#") + oneOf(r, append(knownTags(), "Pkg")...) + oneOf(r, ":", ":", "::", "")
	}
	return oneOf(r, "a", "b", "1", "noarch", "/f", "b:any", "#c", "lib(x)", "lib(x)(64bit)", "a,b|c", "-", "x=1")
}

func someVersion(r *rand.Rand) string {
	return oneOf(r, "1", "1-1", "0:1", "2:1.0~a-3", "a", strings.Repeat("9", api.MaxEvr), "1-2-3", "--1", strconv.Itoa(r.Intn(1000)))
}

func someDName(r *rand.Rand) api.Dep {
	if r.Intn(2) == 0 {
		return named(someName(r))
	}
	return compared(someName(r), 1+r.Intn(7), someVersion(r))
}

// someDep is a dependency with no more than so many names; of one package, if the one that has it wants that.
func someDep(r *rand.Rand, names int, ofOne bool) api.Dep {
	if names < 2 || r.Intn(3) == 0 {
		return someDName(r)
	}
	kind := []int{api.DWith, api.DWithout, api.DAnd, api.DOr, api.DIf}[r.Intn(5)]
	if ofOne {
		kind = []int{api.DWith, api.DWithout}[r.Intn(2)]
	}
	ofOne = ofOne || kind == api.DWith || kind == api.DWithout
	args := 2
	switch {
	case kind == api.DIf:
		args += r.Intn(2)
	case kind != api.DWithout:
		args += r.Intn(3)
	}
	args = min(args, names)
	d := of(kind)
	for range args {
		d.Args = append(d.Args, someDep(r, names/args, ofOne))
	}
	return d
}

// some is a dependency that may be in the tag's list.
func (f related) some(r *rand.Rand) api.Dep {
	if !f.ofNames() {
		return someDep(r, api.MaxDepParts, false)
	}
	d := someDName(r)
	if !f.takes(d.Op) {
		d.Op = api.Same
	}
	return d
}

func somePackage(r *rand.Rand) api.Package {
	p := api.Package{
		Name: someName(r), Evr: someVersion(r), Arch: oneOf(r, "noarch", "x86_64", "i386", "a"),
		Vendor: oneOf(r, "", "", "v", " v  w ", "# x: y", " ", "=Vnd:", "-Vnd:"),
	}
	for _, f := range relatedTags() {
		for range r.Intn(5) * r.Intn(3) {
			*f.in(&p) = append(*f.in(&p), f.some(r))
		}
	}
	for range r.Intn(3) * r.Intn(6) {
		p.Files = append(p.Files, "/"+strings.TrimPrefix(someName(r), "n"))
	}
	return p
}

func somePackages(r *rand.Rand) []api.Package {
	var out []api.Package
	for range r.Intn(6) {
		out = append(out, somePackage(r))
	}
	return out
}

// P13.2, P13.3: many packages are written, and read as they are; with one that may not be among them, none is.
func TestManyWritten(t *testing.T) {
	r := rand.New(rand.NewSource(31))
	seen := map[string][]api.Package{}
	for range 1200 {
		l := somePackages(r)
		text := writes(t, l...)
		rewrites(t, text)
		if m, there := seen[text]; there && !same(l, m) {
			t.Errorf("%s is written as %s", shown(l), shown(m))
		}
		seen[text] = l
		if len(l) == 0 {
			continue
		}
		wrong := slices.Clone(l)
		wrong[r.Intn(len(l))].Arch = "A"
		keeps(t, api.ErrPoolArch, wrong...)
		wrong = slices.Clone(l)
		wrong[r.Intn(len(l))].Evr = "1:"
		keeps(t, api.ErrPoolEvr, wrong...)
	}
}

// teller tells packages in many ways: as short as can be, if it is tight.
type teller struct {
	r     *rand.Rand
	tight bool
}

func (w teller) of(texts ...string) string {
	if w.tight {
		return texts[0]
	}
	return oneOf(w.r, texts...)
}

// dep is a dependency's text, in which more blanks may stand between words; behind a `)` that is a word none need stand.
func (w teller) dep(d api.Dep) string {
	if d.Kind == api.DName {
		text, _ := dep.Print(d)
		return strings.ReplaceAll(text, " ", w.of(" ", " ", "  "))
	}
	text := "(" + w.of("", "", " ")
	for i, a := range d.Args {
		word := map[int]string{api.DAnd: "and", api.DOr: "or", api.DIf: "if", api.DWith: "with", api.DWithout: "without"}[d.Kind]
		if i == 2 && d.Kind == api.DIf {
			word = "else"
		}
		if i > 0 && d.Args[i-1].Kind == api.DName {
			word = " " + word
		}
		if i > 0 {
			text += w.of("", " ") + word + w.of(" ", "  ")
		}
		text += w.dep(a)
	}
	return text + w.of("", "", " ") + ")"
}

// junk is lines that mean nothing; within a block they would.
func (w teller) junk() string {
	return w.of("", "", "", "", "\n", " \t\n", "#\n", "# =Req: x\n", "#=Pkg: x 1 - noarch\n", "=Cks: (\n", "=Ver: 1\n", "+Des:\n=Pkg: (\n\n#\n-Des: \n", "+Pkg:\nx 1 - noarch\n-Pkg:\n", "+Req:\n-Req:\n", "+Vnd:\n\n-Vnd:\n")
}

// values are the lines of a tag's values, in single lines and in blocks; trailing is what may stand behind one.
func (w teller) values(tag string, values []string, trailing string) []string {
	var out []string
	for len(values) > 0 {
		n := 1 + w.r.Intn(len(values))
		if w.tight {
			n = len(values)
		}
		if n < 3 && (w.tight || w.r.Intn(2) == 0) {
			for _, v := range values[:n] {
				blank := w.of("", " ")
				if strings.HasPrefix(v, " ") {
					blank = " "
				}
				out = append(out, "="+tag+":"+blank+v+w.of("", trailing)+"\n"+w.junk())
			}
		} else {
			out = append(out, w.block(tag, values[:n], trailing))
		}
		values = values[n:]
	}
	return out
}

func (w teller) block(tag string, values []string, trailing string) string {
	end := "-" + tag + ":"
	text := "+" + tag + ":" + w.of("", " ", "\t ") + "\n"
	for _, v := range values {
		v += w.of("", trailing)
		if strings.TrimRight(v, " ") == end {
			v = " " + v
		}
		text += v + "\n" + w.of("", "", "", "\n", " \t \n")
	}
	return text + end + w.of("", "", " ", "\t") + "\n" + w.junk()
}

// lists are the lines of a package, those of each of its tags in order.
func (w teller) lists(p api.Package) [][]string {
	var all [][]string
	if w.r.Intn(4) == 0 && !w.tight {
		all = append(all, []string{single("Vnd", oneOf(w.r, "x", "", "\x7f", strings.Repeat("x", 99))) + "\n", single("Vnd", p.Vendor) + "\n"})
	} else if p.Vendor != "" && (w.tight || p.Vendor != " " && p.Vendor != "-Vnd:") {
		all = append(all, w.values("Vnd", []string{p.Vendor}, ""))
	} else if p.Vendor != "" { // no block has this value
		all = append(all, []string{single("Vnd", p.Vendor) + "\n"})
	}
	all = append(all, w.values("Fls", p.Files, oneOf(w.r, " ", "\t", "\t \t")))
	for _, f := range relatedTags() {
		var texts []string
		for _, d := range *f.in(&p) {
			texts = append(texts, w.dep(d))
		}
		all = append(all, w.values(f.tag, texts, oneOf(w.r, " ", "   ")))
	}
	return all
}

func (w teller) pack(p api.Package) string {
	version, release := p.Evr, "-"
	for at := range p.Evr {
		if p.Evr[at] == '-' && at > 0 && p.Evr[at+1:] != "-" && (w.tight || w.r.Intn(3) == 0) {
			version, release = p.Evr[:at], p.Evr[at+1:]
		}
	}
	blank := func() string { return w.of(" ", " ", "  ") }
	text := "=Pkg:" + w.of("", " ", "  ") + p.Name + blank() + version + blank() + release + blank() + p.Arch + w.of("", "", " ") + "\n" + w.junk()
	lists := w.lists(p)
	for len(lists) > 0 {
		n := w.r.Intn(len(lists))
		if len(lists[n]) == 0 {
			lists = slices.Delete(lists, n, n+1)
			continue
		}
		text += lists[n][0] + w.junk()
		lists[n] = lists[n][1:]
	}
	return text
}

func (w teller) all(l []api.Package) string {
	text := w.of("", "", "\n", "# x\n", "=Ver: 2.0\n", "=Ver:\n=Ver: (\n")
	for _, p := range l {
		text += w.pack(p)
	}
	if w.tight || w.r.Intn(3) == 0 {
		return strings.TrimSuffix(text, "\n")
	}
	return text + oneOf(w.r, "", "", "\n", "\n\n", " ", "# x", "\n# x\n")
}

// P13.1, P13.3: many packages, told in many ways, are read as what they are.
func TestManyTold(t *testing.T) {
	r := rand.New(rand.NewSource(32))
	for n := range 1500 {
		l := somePackages(r)
		text := teller{r, n%3 == 0}.all(l)
		if len(text) > api.MaxText {
			continue
		}
		reads(t, text, l...)
		rewrites(t, text)
		wrong := text + "\n" + must + oneOf(r, "x", "=:", "=Req: (", "+Obs:\nb c\n-Obs:", "+x:", "=Vnd", "=Pkg: a 1 -", "-Req:")
		if len(wrong) <= api.MaxText {
			refuses(t, wrong, api.ErrSuseForm)
		}
	}
}

// P13.3: what is told as short as can be is as long as what is written of it.
func TestManyTight(t *testing.T) {
	r := rand.New(rand.NewSource(34))
	for range 1200 {
		l := somePackages(r)
		text := teller{r, true}.all(l)
		written := writes(t, l...)
		if len(l) > 0 && len(text) < api.MaxText && len(written) != len(text)+1 {
			t.Errorf("%q, not as long as %q", short(written), short(text))
		}
	}
}

// P13.1: a text's packages, put behind another one's, are told behind them.
func TestBehind(t *testing.T) {
	r := rand.New(rand.NewSource(33))
	for range 500 {
		l, m := somePackages(r), somePackages(r)
		text := teller{r: r}.all(l) + oneOf(r, "\n", "\n\n", "\n# x\n") + strings.ReplaceAll(teller{r: r}.all(m), "=Ver:\n=Ver: (\n", "")
		if len(text) > api.MaxText {
			continue
		}
		reads(t, text, slices.Concat(l, m)...)
		// What is written may be put together, too.
		first, _ := suse.Write(l)
		second, _ := suse.Write(m)
		if len(first)+len(second) < api.MaxText {
			reads(t, first+second, slices.Concat(l, m)...)
		}
	}
}
