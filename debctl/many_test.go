package debctl_test

import (
	"math/rand"
	"slices"
	"strconv"
	"strings"
	"testing"

	"chandler/api"
	"chandler/debctl"
)

// someName is one that a dependency that is written may have.
func someName(r *rand.Rand) string {
	if r.Intn(6) == 0 {
		return "n" + strings.Repeat("x", r.Intn(api.MaxName))
	}
	return oneOf(r, "a", "b", "1", "noarch", "all", "/f", "b:any", "#c", "<<", ">>", "=b", "[i386]", "!")
}

func someVersion(r *rand.Rand) string {
	return oneOf(r, "1", "1-1", "0:1", "2:1.0~a-3", "a", strings.Repeat("9", api.MaxEvr), "1-2-3", strconv.Itoa(r.Intn(1000)))
}

func somePiece(r *rand.Rand) api.Dep {
	if r.Intn(2) == 0 {
		return named(someName(r))
	}
	return compared(someName(r), []int{1, 2, 3, 4, 6}[r.Intn(5)], someVersion(r))
}

// someRelation is one that may be in a field.
func someRelation(r *rand.Rand, f related) api.Dep {
	d := somePiece(r)
	if !f.takes(d.Op) {
		d.Op = api.Same
	}
	if f.ofNames() || r.Intn(2) == 0 {
		return d
	}
	all := []api.Dep{d, somePiece(r)}
	for r.Intn(3) > 0 && len(all) < api.MaxDepParts {
		all = append(all, somePiece(r))
	}
	return either(all...)
}

// somePackage is one that is written.
func somePackage(r *rand.Rand) api.Package {
	p := api.Package{
		Name: oneOf(r, someName(r), "lib(x)", "a,b|c"), Evr: someVersion(r), Arch: oneOf(r, "noarch", "amd64", "i386", "a"),
		Vendor: oneOf(r, "", "", "v", "v  w", "# x: y", "v, w | x (>= 1)"),
	}
	for _, f := range listFields() {
		for range r.Intn(4) * r.Intn(3) {
			*f.in(&p) = append(*f.in(&p), someRelation(r, f))
		}
	}
	return p
}

func somePackages(r *rand.Rand) []api.Package {
	var out []api.Package
	for range r.Intn(6) {
		out = append(out, somePackage(r))
	}
	return out
}

// spoiled is a package that may be, but is not written.
func spoiled(r *rand.Rand, p api.Package) api.Package {
	switch r.Intn(6) {
	case 0:
		p.Files = []string{"/f"}
	case 1:
		p.Vendor = oneOf(r, " ", " v", "v ")
	case 2:
		p.Arch = "all"
	default:
		bad := []api.Dep{
			compared("b", 5, "1"), compared("b", 7, "1"), named("b(x)"), named("b,"), named("|b"),
			{Kind: api.DAnd, Args: []api.Dep{named("b"), named("c")}}, either(named("b"), named("c(x)")), either(compared("b", 5, "1"), named("c")),
			either(named("b"), either(named("c"), named("d"))),
		}
		f := listFields()[1+r.Intn(3)]
		l := slices.Clone(*f.in(&p))
		*f.in(&p) = slices.Insert(l, r.Intn(len(l)+1), bad[r.Intn(len(bad))])
	}
	return p
}

// P12.3, P12.4: many packages are written, and read as they are; with one that is not written among them, none is.
func TestManyWritten(t *testing.T) {
	r := rand.New(rand.NewSource(31))
	seen := map[string][]api.Package{}
	for range 4000 {
		l := somePackages(r)
		text := writes(t, l...)
		rewrites(t, text)
		if m, there := seen[text]; there && !same(l, m) {
			t.Errorf("%+v is written as %+v", l, m)
		}
		seen[text] = l
		if len(l) == 0 {
			continue
		}
		wrong := slices.Clone(l)
		at := r.Intn(len(l))
		wrong[at] = spoiled(r, wrong[at])
		keeps(t, api.ErrDebForm, wrong...)
		wrong[r.Intn(len(l))].Evr = "1:"
		keeps(t, api.ErrPoolEvr, wrong...)
	}
}

// teller tells packages as stanzas in many ways.
type teller struct {
	r *rand.Rand
}

func (w teller) of(texts ...string) string {
	return oneOf(w.r, texts...)
}

// space is layout, or a line that goes on behind some, if it may be.
func (w teller) space() string {
	if w.r.Intn(12) == 0 {
		return w.of(" \n ", "\n\t", "\n  ", "\n# x\n ", "\n#\n#: (\n\t ")
	}
	return w.of("", "", "", " ", " ", "\t", "  ", " \t")
}

func (w teller) piece(d api.Dep) string {
	if d.Op == 0 {
		return d.Name
	}
	sign := map[int]string{1: "<<", 2: "=", 3: "<=", 4: ">>", 6: ">="}[d.Op]
	return d.Name + w.space() + "(" + w.space() + sign + w.space() + d.Evr + w.space() + ")"
}

func (w teller) relations(l []api.Dep) string {
	text := ""
	for i, d := range l {
		if i > 0 {
			text += w.space() + "," + w.space()
		}
		if d.Kind == api.DName {
			text += w.piece(d)
			continue
		}
		for j, x := range d.Args {
			if j > 0 {
				text += w.space() + "|" + w.space()
			}
			text += w.piece(x)
		}
	}
	return text
}

// field is a field's lines.
func (w teller) field(name, text string) string {
	if text == "" && w.r.Intn(3) > 0 {
		return ""
	}
	end := w.of("", "", "", " ", "\t") + "\n"
	if w.r.Intn(6) == 0 {
		end += w.of("#\n", "# Package: z\n", "#: (\n")
	}
	return name + ":" + w.of("", " ", " ", "\t", "  ") + text + end
}

// vendor is a text, of which one blank may stand for a line that goes on.
func (w teller) vendor(text string) string {
	first, second, is := strings.Cut(text, " ")
	if is && w.r.Intn(2) == 0 && !strings.HasPrefix(second, " ") {
		return first + w.of("\n ", " \n\t", "\n# z\n  ") + second
	}
	return text
}

func (w teller) other() string {
	return w.of("Description: x\n y\n .\n z\n", "Depend: (\n", "package: z\n", "Installed-Size: 7\n", "Suggests: (,|\n", "\xff:\n", "Files:\n /f\n")
}

// pack is a package's stanza.
func (w teller) pack(p api.Package) string {
	arch := p.Arch
	if arch == "noarch" {
		arch = w.of("all", "noarch")
	}
	all := []string{w.field("Package", p.Name), w.field("Version", p.Evr), w.field("Architecture", arch), w.field("Origin", w.vendor(p.Vendor))}
	for _, f := range listFields() {
		l := *f.in(&p)
		if f.name == "Conflicts" {
			n := w.r.Intn(len(l) + 1)
			all = append(all, w.field("Breaks", w.relations(l[n:])))
			l = l[:n]
		}
		all = append(all, w.field(f.name, w.relations(l)))
	}
	if w.r.Intn(3) == 0 {
		all = append(all, w.other())
	}
	w.r.Shuffle(len(all), func(i, j int) { all[i], all[j] = all[j], all[i] })
	return strings.Join(all, "")
}

func (w teller) all(l []api.Package) string {
	text := w.of("", "", "\n", "# x\n", " \n\t\n")
	for i, p := range l {
		if i > 0 {
			text += w.of("\n", "\n", " \n", "\t\n\n", "\n# x\n\n")
		}
		text += w.pack(p)
	}
	if w.r.Intn(3) == 0 {
		return strings.TrimSuffix(text, "\n")
	}
	return text + w.of("", "", "\n", "\n\n", " ", "# x", "\n# x\n")
}

// P12.1, P12.2: many packages, told in many ways, are read as what they are.
func TestManyTold(t *testing.T) {
	r := rand.New(rand.NewSource(32))
	for range 4000 {
		l := somePackages(r)
		text := teller{r}.all(l)
		if len(text) > api.MaxText {
			continue
		}
		reads(t, text, l...)
		rewrites(t, text)
		wrong := text + "\n\n" + must + oneOf(r, "x", ":", "Depends: (", "Breaks: ,", "Version: 2", "Enhances: b (> 1)")
		if len(wrong) <= api.MaxText {
			refuses(t, wrong, api.ErrDebForm)
		}
	}
}

// P12.1: a text's packages, put behind another one's, are told behind them.
func TestBehind(t *testing.T) {
	r := rand.New(rand.NewSource(33))
	for range 500 {
		l, m := somePackages(r), somePackages(r)
		text := teller{r}.all(l) + oneOf(r, "\n\n", "\n \n", "\n\t\n\n") + teller{r}.all(m)
		if len(text) > api.MaxText {
			continue
		}
		reads(t, text, slices.Concat(l, m)...)
		// What is written may be put together, too.
		first, _ := debctl.Write(l)
		second, _ := debctl.Write(m)
		if len(first)+len(second) < api.MaxText {
			reads(t, first+"\n"+second, slices.Concat(l, m)...)
		}
	}
}
