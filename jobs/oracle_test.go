package jobs_test

import (
	"math/rand"
	"regexp"
	"slices"
	"strings"
	"testing"

	"chandler/api"
	"chandler/dep"
	"chandler/pool"
	"chandler/provides"
)

// The chapter's words as patterns.
var (
	lineForm  = regexp.MustCompile(`\A(install|erase|update|dup|lock|multi|favor) (?:(all)|(name|glob|dep|exact) ((?s:.*)))\z`)
	globForm  = regexp.MustCompile(`\A[!-~]{1,60}\z`)
	exactForm = regexp.MustCompile(`\A[!-~]{1,200}\z`)
)

// told is a line's job as the chapter's words have it; false: there is none.
func told(line string) (api.Job, bool) {
	m := lineForm.FindStringSubmatch(line)
	if m == nil {
		return api.Job{}, false
	}
	j := api.Job{Kind: slices.Index(kindWords(), m[1]), How: slices.Index(howWords(), m[2]+m[3]), Text: m[4]}
	if d, e := dep.Parse(j.Text); j.How == api.SDep && e == api.OK {
		j.Text, _ = dep.Print(d)
	}
	if !is(j) {
		return api.Job{}, false
	}
	return j, true
}

// is tells whether a job may be as the chapter's words have it.
func is(j api.Job) bool {
	if j.Kind < 1 || j.Kind > 7 {
		return false
	}
	switch j.How {
	case api.SName:
		return dep.Name(j.Text)
	case api.SGlob:
		return globForm.MatchString(j.Text)
	case api.SDep:
		d, e := dep.Parse(j.Text)
		printed, _ := dep.Print(d)
		return e == api.OK && printed == j.Text && (d.Kind == api.DName || d.Kind == api.DWith || d.Kind == api.DWithout)
	case api.SExact:
		return exactForm.MatchString(j.Text)
	}
	return j.How == api.SAll && j.Text == ""
}

// fits tells whether a name fits a glob.
func fits(glob, name string) bool {
	pattern := strings.NewReplacer(`\*`, `.*`, `\?`, `.`).Replace(regexp.QuoteMeta(glob))
	return regexp.MustCompile(`\A(?s:` + pattern + `)\z`).MatchString(name)
}

// meant are the packages that are meant by a job that may be.
func meant(p *pool.Pool, l []api.Package, j api.Job) []int {
	x := provides.New(p)
	var out []int
	for id, k := range l {
		d, _ := dep.Parse(j.Text)
		met, _ := x.Met(d, []int{id})
		if j.How == api.SAll || j.How == api.SName && k.Name == j.Text || j.How == api.SGlob && fits(j.Text, k.Name) || j.How == api.SDep && met || j.How == api.SExact && k.Name+"-"+k.Evr+"."+k.Arch == j.Text {
			out = append(out, id)
		}
	}
	return out
}

// asToldLine holds a line's answer against the chapter's words.
func asToldLine(t *testing.T, line string) {
	t.Helper()
	if want, there := told(line); there {
		reads(t, line, want)
	} else {
		refuses(t, line)
	}
}

// asToldJob holds a job's answers against the chapter's words.
func asToldJob(t *testing.T, j api.Job) {
	t.Helper()
	if is(j) {
		may(t, j)
	} else {
		mayNot(t, j)
	}
}

// someLine is made of words and blanks, most of them in their places.
func someLine(r *rand.Rand) string {
	blank := func() string { return oneOf(r, append(slices.Repeat([]string{" "}, 20), "  ", "", "\t")...) }
	line := oneOf(r, "", "", "", "", "", " ") + oneOf(r, append(kindWords()[1:], kindWords()...)...) + blank() + oneOf(r, append(howWords(), "dep", "name", "glob")...)
	for range r.Intn(4) {
		line += blank() + oneOf(r, "a", "lib", "b", "*", "?", "(", ")", "(a", "b)", "with", "with", "without", "and", ">=", "=", "<", "1", "2-1", "(a with b)", "a(x)", "all", strings.Repeat("a", 59+r.Intn(4)), strings.Repeat("a", 198+r.Intn(4)))
	}
	return line
}

// P14.2: many lines, right and wrong ones.
func TestWildLines(t *testing.T) {
	r := rand.New(rand.NewSource(51))
	right := 0
	for range 60000 {
		line := someLine(r)
		asToldLine(t, line)
		if _, there := told(line); there {
			right++
		}
	}
	if right < 5000 {
		t.Errorf("%d right ones alone", right)
	}
}

// P14.2: lines of jobs in which something was changed.
func TestMangledLines(t *testing.T) {
	r := rand.New(rand.NewSource(52))
	for range 30000 {
		line := written(someJob(r, nil))
		for range 1 + r.Intn(3) {
			n := r.Intn(len(line) + 1)
			m := min(len(line), n+r.Intn(3))
			line = line[:n] + oneOf(r, "", "", " ", "a", "(", ")", "*", "\x00", "\x7f", string([]byte{byte(r.Intn(256))})) + line[m:]
		}
		asToldLine(t, line)
	}
}

// P14.1, P14.3: jobs with any numbers and Texts.
func TestAnyJobs(t *testing.T) {
	r := rand.New(rand.NewSource(53))
	for range 4000 {
		j := api.Job{Kind: r.Intn(10) - 1, How: r.Intn(8) - 1, Text: someJob(r, nil).Text}
		switch r.Intn(3) {
		case 0:
			m := lineForm.FindStringSubmatch(someLine(r))
			if m != nil {
				j.Text = m[4]
			}
		case 1:
			b := make([]byte, r.Intn(5))
			r.Read(b)
			j.Text = string(b)
		}
		asToldJob(t, j)
	}
}

// P14.2: any bytes, short ones above all.
func TestAnyLines(t *testing.T) {
	r := rand.New(rand.NewSource(54))
	for range 20000 {
		b := make([]byte, r.Intn(12))
		r.Read(b)
		asToldLine(t, string(b))
		asToldLine(t, oneOf(r, "install ", "lock name ", "lock glob ", "dup dep ", "favor exact ", "erase all")+string(b))
	}
}

// FuzzLines holds any line's answer against the chapter's words.
func FuzzLines(f *testing.F) {
	for _, line := range []string{"install name a", "erase dep lib>=1", "update all", "install a", "erase dep (a  with lib)", "lock glob ?*", "favor exact a-2-1.noarch", "multi dep ((a without b) with c = 1)", "dup  all"} {
		f.Add(line)
	}
	f.Fuzz(asToldLine)
}
