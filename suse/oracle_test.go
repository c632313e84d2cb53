package suse_test

import (
	"math/rand"
	"regexp"
	"strings"
	"testing"

	"chandler/api"
	"chandler/dep"
	"chandler/pool"
	"chandler/suse"
)

// What section Words and P13.1 say, as patterns.
var (
	leftOut   = regexp.MustCompile(`(?s)^(#.*|[ \t]*)$`)
	empty     = regexp.MustCompile(`^[ \t]*$`)
	valued    = regexp.MustCompile(`(?s)^=([^: \t]+): ?(.*)$`)
	beginning = regexp.MustCompile(`(?s)^\+([^: \t]+):[ \t]*$`)
	fourWords = regexp.MustCompile(`(?s)^ *([^ ]+) +([^ ]+) +([^ ]+) +([^ ]+) *$`)
	ofLayout  = regexp.MustCompile(`(?s)^[ \t]*(.*?)[ \t]*$`)
)

// oracle is what P13.1 says of a text.
func oracle(text string) ([]api.Package, api.Errno) {
	if len(text) > 40000 {
		return nil, api.ErrSuseLong
	}
	var out []api.Package
	last := func() *api.Package { return &out[len(out)-1] }
	all := strings.Split(text, "\n")
	for n := 0; n < len(all); n++ {
		if leftOut.MatchString(all[n]) {
			continue
		}
		one, many := valued.FindStringSubmatch(all[n]), beginning.FindStringSubmatch(all[n])
		switch {
		case one != nil && one[1] == "Pkg":
			if len(out) > 0 {
				if err := pool.Check(*last()); err != api.OK {
					return nil, err
				}
			}
			if len(out) == 200 {
				return nil, api.ErrSuseMany
			}
			w := fourWords.FindStringSubmatch(one[2])
			if w == nil {
				return nil, api.ErrSuseForm
			}
			out = append(out, api.Package{Name: w[1], Evr: w[2], Arch: w[4]})
			if w[3] != "-" {
				last().Evr += "-" + w[3]
			}
		case one != nil && one[1] == "Ver" && len(out) == 0:
		case one == nil && many == nil || len(out) == 0:
			return nil, api.ErrSuseForm
		case one != nil:
			if !taken(last(), one[1], one[2]) {
				return nil, api.ErrSuseForm
			}
		default:
			for n++; n < len(all) && strings.TrimRight(all[n], " \t") != "-"+many[1]+":"; n++ {
				if !empty.MatchString(all[n]) && many[1] != "Pkg" && !taken(last(), many[1], all[n]) {
					return nil, api.ErrSuseForm
				}
			}
			if n == len(all) {
				return nil, api.ErrSuseForm
			}
		}
	}
	if len(out) == 0 {
		return nil, api.OK
	}
	if err := pool.Check(*last()); err != api.OK {
		return nil, err
	}
	return out, api.OK
}

// taken puts a value to a package, and tells whether it may be.
func taken(p *api.Package, tag, value string) bool {
	switch tag {
	case "Vnd":
		p.Vendor = value
	case "Fls":
		p.Files = append(p.Files, ofLayout.FindStringSubmatch(value)[1])
	}
	for _, f := range relatedTags() {
		if f.tag == tag {
			d, err := dep.Parse(value)
			*f.in(p) = append(*f.in(p), d)
			return err == api.OK
		}
	}
	return true
}

func oneOf(r *rand.Rand, texts ...string) string {
	return texts[r.Intn(len(texts))]
}

// wild tells packages, of which now and then something is not as it should be.
type wild struct {
	r    *rand.Rand
	rare int // one of so many is not
}

func (w wild) of(texts ...string) string {
	return oneOf(w.r, texts...)
}

func (w wild) strange() bool {
	return w.r.Intn(w.rare) == 0
}

func (w wild) layout() string {
	return w.of("", "", "", "", " ", "\t", " \t ")
}

// value is one of a tag.
func (w wild) value(tag string) string {
	if w.strange() {
		return w.of("", " ", "(", "b c", "b >= ", "\x7f", "x", "/x y", "\t", "b = 1\t", "b > 1", "(b or c)", "ä", "# x", "-"+tag+":", "=Pkg: b 1 - noarch", "\r")
	}
	if w.r.Intn(60) == 0 { // what is wrong only when the package is whole
		switch tag {
		case "Vnd":
			return w.of("\x7f", strings.Repeat("v", 61))
		case "Fls":
			return w.of("x", "/x(")
		case "Prv", "Obs":
			return w.of("(b or c)", "((b and c) if d)")
		}
	}
	switch tag {
	case "Vnd":
		return w.of("", "v", " v", "v w ", "# v", "=Vnd: v")
	case "Fls":
		return w.of("/x", " /y", "/z\t", "\t/usr/bin/x ")
	case "Prv":
		return w.of("b", "c = 1", " lib(x)", "-Prv:", "#b = 2-3 ")
	case "Obs":
		return w.of("b", "c < 1", " d >= 2", "-Obs:")
	case "Pkg", "Ver", "Cks", "Des":
		return w.of("", "x", "(", "b 1 - noarch", "+Req:", "# x", "-x:", "=Pkg: (")
	}
	return w.of("b", "c < 1", " d", "(b or c = 1)", "((b and c)and d) ", "-"+tag+":", "#x", "=Pkg:", "(b if (c with d) else e)")
}

func (w wild) tag() string {
	return w.of("Vnd", "Fls", "Prv", "Req", "Prq", "Con", "Obs", "Rec", "Sup", "Cks", "Des", "Ver", "=x")
}

// lines are those of a tag.
func (w wild) lines() string {
	tag := w.tag()
	if w.r.Intn(3) > 0 {
		name := tag
		if w.strange() {
			name = w.of("", tag+" ", " "+tag, tag[:1], strings.ToLower(tag), "Pkg", "+"+tag)
		}
		return w.sign("=") + name + w.of(":", ":", ": ", ": ", ": ") + w.value(tag) + "\n"
	}
	if w.r.Intn(8) == 0 {
		tag = "Pkg"
	}
	out := w.sign("+") + tag + ":" + w.layout() + w.odd() + "\n"
	for range w.r.Intn(4) {
		v := w.value(tag)
		if v == "-"+tag+":" && !w.strange() {
			v = " " + v
		}
		out += v + "\n" + w.of("", "", "", "\n", " \t\n")
	}
	if w.strange() {
		tag = w.of("", tag+"s", "Pkg", " "+tag)
	}
	return out + w.sign("-") + tag + ":" + w.layout() + w.odd() + "\n"
}

func (w wild) sign(sign string) string {
	if w.strange() {
		return w.of("", "=", "+", "-", " "+sign, "#"+sign)
	}
	return sign
}

func (w wild) odd() string {
	if w.strange() {
		return w.of("x", ":", "\r", " b")
	}
	return ""
}

func (w wild) pack() string {
	name, version, release, arch := w.of("a", "b", "#", "lib(x)"), w.of("1", "2:3", "1-2", "a.b"), w.of("1", "-", "-", "2.3"), w.of("noarch", "i586")
	for _, word := range []*string{&name, &version, &release, &arch} {
		if w.strange() {
			*word = w.of("", "(", "-", "x y", "1-", "A", "a\t", "\xff", "1:", strings.Repeat("a", 60))
		}
	}
	blank := func() string { return w.of(" ", " ", " ", "  ") }
	out := w.sign("=") + "Pkg:" + w.of("", " ", " ", "  ") + name + blank() + version + blank() + release + blank() + arch + w.of("", "", " ") + "\n"
	for range w.r.Intn(6) {
		out += w.lines()
		if w.r.Intn(4) == 0 {
			out += w.of("\n", "#\n", "# x\n", " \t\n", "#=Pkg: a\n")
		}
		if w.strange() {
			out += w.of("x", " x", "=", "+", "-", "=:", "-Req:", "=Req", "\r", " #", "=Ver: 1") + "\n"
		}
	}
	return out
}

func (w wild) text() string {
	out := w.of("", "", "\n", "# x\n", "=Ver: 2\n")
	if w.strange() {
		out += w.lines()
	}
	for range w.r.Intn(5) {
		out += w.pack()
	}
	if w.r.Intn(2) == 0 {
		out = strings.TrimSuffix(out, "\n")
	}
	return out
}

// mangled is a text of which some bytes are not what they were.
func mangled(r *rand.Rand, text string) string {
	at := r.Intn(len(text) + 1)
	to := min(len(text), at+r.Intn(8))
	switch r.Intn(4) {
	case 0:
		return text[:at]
	case 1:
		return text[:at] + text[to:]
	case 2:
		return text[:at] + oneOf(r, "\n", "\n\n", " ", "\t", ":", "#", "\n#", "(", ")", "=", "+", "-", "\n=", "\n+", "\n-", "\n+Req:\n", "\n-Req:\n", "\n=Pkg: ", "x", "\x00", "\xff", "\r\n") + text[at:]
	}
	other := r.Intn(len(text) + 1)
	return text[:at] + text[min(at, other):to] + text[to:]
}

// P13.1, P13.3: many texts, right ones and wrong ones, are answered as the promises say of them.
func TestOracle(t *testing.T) {
	r := rand.New(rand.NewSource(21))
	had := map[api.Errno]int{}
	for i := range 30000 {
		text := wild{r, 5 + i%500}.text()
		if r.Intn(3) == 0 {
			text = mangled(r, text)
		}
		l, e := oracle(text)
		tells(t, text, l, e)
		rewrites(t, text)
		had[e]++
		if e == api.OK && len(l) == 0 {
			had[-1]++
		}
		if t.Failed() {
			return
		}
	}
	if had[api.OK] < had[-1]+2000 {
		t.Errorf("no more than %d are right, of which %d have no packages", had[api.OK], had[-1])
	}
	for _, e := range []api.Errno{api.ErrSuseForm, api.ErrPoolName, api.ErrPoolEvr, api.ErrPoolArch, api.ErrPoolVendor, api.ErrPoolDeps, api.ErrPoolFiles} {
		if had[e] < 100 {
			t.Errorf("no more than %d of %d", had[e], e)
		}
	}
}

// P13.1: many texts made of the words that mean something.
func TestManyWords(t *testing.T) {
	r := rand.New(rand.NewSource(22))
	right := 0
	for range 60000 {
		text := oneOf(r, must, must, must, "", "=Ver:\n")
		for range r.Intn(12) {
			text += oneOf(r, "\n", "\n", "\n", "=", "+", "-", "=Req:", "=Req: b\n", "+Req:\n", "-Req:\n", "-Req:", "+Vnd:\n", "-Vnd:\n", "+Pkg:\n", "-Pkg:\n", must, "=Pkg:", "=Ver:", "b", "/x", "#", " ", "\t", ":", "=Fls: /x\n", "=x:\n", "\xff")
		}
		l, e := oracle(text)
		tells(t, text, l, e)
		if e == api.OK && len(l) > 0 {
			rewrites(t, text)
			right++
		}
	}
	if right < 1000 {
		t.Errorf("no more than %d are right", right)
	}
}

// R1: any bytes are answered, and of the same bytes always the same.
func TestAnyBytes(t *testing.T) {
	r := rand.New(rand.NewSource(23))
	const some = "\n\n \t:#=+-xReq(1)>"
	for range 20000 {
		b := make([]byte, r.Intn(60))
		for i := range b {
			b[i] = some[r.Intn(len(some))]
			if r.Intn(8) == 0 {
				b[i] = byte(r.Intn(256))
			}
		}
		for _, text := range []string{string(b), must + string(b), lines("=Req: " + string(b)), lines("=Vnd:" + string(b)), lines("+Req:", string(b), "-Req:"), lines("=Pkg:" + string(b)), "=Pkg: a 1 - n" + string(b)} {
			l, e := oracle(text)
			tells(t, text, l, e)
			if m, f := suse.Parse(text); f != e || !same(l, m) {
				t.Errorf("%q: %v, %d", text, m, f)
			}
		}
	}
}
