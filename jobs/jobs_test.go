package jobs_test

import (
	"math"
	"slices"
	"strconv"
	"strings"
	"testing"

	"chandler/api"
	"chandler/dep"
	"chandler/jobs"
	"chandler/pool"
)

// kindWords and howWords are words at their numbers.
func kindWords() []string {
	return []string{"", "install", "erase", "update", "dup", "lock", "multi", "favor"}
}

func howWords() []string {
	return []string{"", "name", "glob", "dep", "exact", "all"}
}

// allKinds and allHows are the numbers that may be.
func allKinds() []int {
	return []int{api.JInstall, api.JErase, api.JUpdate, api.JDup, api.JLock, api.JMulti, api.JFavor}
}

func allHows() []int {
	return []int{api.SName, api.SGlob, api.SDep, api.SExact, api.SAll}
}

// goodText is one that a how may have.
func goodText(how int) string {
	if how == api.SAll {
		return ""
	}
	return "a"
}

// short is a text for a test's message.
func short(s string) string {
	if len(s) > 120 {
		return strconv.Quote(s[:100]) + " ... of " + strconv.Itoa(len(s))
	}
	return strconv.Quote(s)
}

func shown(j api.Job) string {
	return "job " + strconv.Itoa(j.Kind) + " " + strconv.Itoa(j.How) + " " + short(j.Text)
}

func wordOf(words []string, n int) string {
	if n < 0 || n >= len(words) {
		return strconv.Itoa(n)
	}
	return words[n]
}

// written is a job's line, put together whether the job may be or not.
func written(j api.Job) string {
	line := wordOf(kindWords(), j.Kind) + " " + wordOf(howWords(), j.How)
	if j.How != api.SAll || j.Text != "" {
		line += " " + j.Text
	}
	return line
}

// reads asks that a line is read as a job, which is printed, and read as the same once more.
func reads(t *testing.T, line string, want api.Job) {
	t.Helper()
	j, e := jobs.Parse(line)
	if j != want || e != api.OK {
		t.Errorf("Parse %s: %s, %d, not %s", short(line), shown(j), e, shown(want))
		return
	}
	prints(t, j)
}

func refuses(t *testing.T, line string) {
	t.Helper()
	if j, e := jobs.Parse(line); j != (api.Job{}) || e != api.ErrJobForm {
		t.Errorf("Parse %s: %s, %d", short(line), shown(j), e)
	}
}

// prints asks that a job may be, and that Parse of its line is the job.
func prints(t *testing.T, j api.Job) {
	t.Helper()
	line, e := jobs.Print(j)
	if line != written(j) || e != api.OK {
		t.Errorf("Print %s: %s, %d", shown(j), short(line), e)
	}
	if k, e := jobs.Parse(line); k != j || e != api.OK {
		t.Errorf("Parse %s: %s, %d", short(line), shown(k), e)
	}
}

// may asks all calls of a job that may be.
func may(t *testing.T, j api.Job) {
	t.Helper()
	prints(t, j)
	for _, p := range []*pool.Pool{made(t, api.Rpm), chapters(t)} {
		if _, e := jobs.Select(p, j); e != api.OK {
			t.Errorf("Select %s: %d", shown(j), e)
		}
	}
	noPool(t, j)
}

// mayNot asks Print and Select of a job that may not be.
func mayNot(t *testing.T, j api.Job) {
	t.Helper()
	if line, e := jobs.Print(j); line != "" || e != api.ErrJobForm {
		t.Errorf("Print %s: %s, %d", shown(j), short(line), e)
	}
	for _, p := range []*pool.Pool{made(t, api.Rpm), made(t, api.Deb), chapters(t)} {
		if l, e := jobs.Select(p, j); len(l) > 0 || e != api.ErrJobForm {
			t.Errorf("Select %s: %v, %d", shown(j), l, e)
		}
	}
	noPool(t, j)
}

// mayNotAtAll asks Parse, too, of the line that the job would have.
func mayNotAtAll(t *testing.T, j api.Job) {
	t.Helper()
	mayNot(t, j)
	refuses(t, written(j))
}

// mayOrNot asks of a job whose Text is no SDep's.
func mayOrNot(t *testing.T, j api.Job, is bool) {
	t.Helper()
	if is {
		may(t, j)
	} else {
		mayNotAtAll(t, j)
	}
}

// noPool: ErrArg goes ahead of all else.
func noPool(t *testing.T, j api.Job) {
	t.Helper()
	if l, e := jobs.Select(nil, j); len(l) > 0 || e != api.ErrArg {
		t.Errorf("Select %s of no pool: %v, %d", shown(j), l, e)
	}
}

func selects(t *testing.T, p *pool.Pool, line string, want ...int) {
	t.Helper()
	j, e := jobs.Parse(line)
	if e != api.OK {
		t.Errorf("Parse %s: %d", short(line), e)
		return
	}
	if l, e := jobs.Select(p, j); !slices.Equal(l, want) || e != api.OK {
		t.Errorf("Select %s: %v, %d, not %v", short(line), l, e, want)
	}
}

// made is a pool of one repository, which has these packages.
func made(t *testing.T, kind int, l ...api.Package) *pool.Pool {
	t.Helper()
	p, e := pool.New(kind)
	if e == api.OK {
		e = p.Add(api.Repo{Name: "main", Packages: l})
	}
	if e != api.OK {
		t.Fatalf("no pool: %d", e)
	}
	return p
}

func pack(name, version string) api.Package {
	return api.Package{Name: name, Evr: version, Arch: "noarch"}
}

// offering is a package that provides these.
func offering(t *testing.T, name, version string, provides ...string) api.Package {
	t.Helper()
	x := pack(name, version)
	for _, text := range provides {
		d, e := dep.Parse(text)
		if e != api.OK {
			t.Fatalf("%q: %d", text, e)
		}
		x.Provides = append(x.Provides, d)
	}
	return x
}

// chapters is the pool of chapter 7.
func chapters(t *testing.T) *pool.Pool {
	t.Helper()
	b := offering(t, "b", "1-1", "lib")
	b.Files = []string{"/bin/b"}
	return made(t, api.Rpm, offering(t, "a", "1-1", "lib = 2"), b, pack("a", "2-1"))
}

// P14.1 to P14.3: the chapter's examples.
func TestExamples(t *testing.T) {
	reads(t, "install name a", api.Job{Kind: api.JInstall, How: api.SName, Text: "a"})
	reads(t, "erase dep lib>=1", api.Job{Kind: api.JErase, How: api.SDep, Text: "lib>=1"})
	reads(t, "update all", api.Job{Kind: api.JUpdate, How: api.SAll})
	refuses(t, "install a")
	j, e := jobs.Parse("erase dep (a  with lib)")
	if line, f := jobs.Print(j); line != "erase dep (a with lib)" || e != api.OK || f != api.OK {
		t.Errorf("%q, %d, %d", line, e, f)
	}
	p := chapters(t)
	selects(t, p, "install glob ?", 0, 1, 2)
	selects(t, p, "lock dep lib >= 1", 0)
	selects(t, p, "favor exact a-2-1.noarch", 2)
}

// noKinds and noHows are numbers below, above and far from those that may be.
func noKinds() []int {
	return []int{0, 8, -1, 9, -7, 15, 255, 257, math.MinInt, math.MaxInt, 1<<32 + 1, 1<<32 + 7, -1 << 63}
}

func noHows() []int {
	return []int{0, 6, -1, 7, -5, 255, 257, math.MinInt, math.MaxInt, 1<<32 + 1, 1<<32 + 5}
}

// P14.1, P14.2: each kind and each how has its number and its word.
func TestNumbers(t *testing.T) {
	for _, kind := range allKinds() {
		for _, how := range allHows() {
			j := api.Job{Kind: kind, How: how, Text: goodText(how)}
			may(t, j)
			reads(t, strings.TrimSuffix(kindWords()[kind]+" "+howWords()[how]+" "+j.Text, " "), j)
		}
	}
	lines := []string{"install name a", "erase glob a", "update dep a", "dup exact a", "lock all", "multi name k", "favor dep a"}
	for i, line := range lines {
		if j, e := jobs.Parse(line); j.Kind != i+1 || e != api.OK {
			t.Errorf("%q: %s, %d", line, shown(j), e)
		}
	}
	for i, line := range []string{"lock name a", "lock glob a", "lock dep a", "lock exact a", "lock all"} {
		if j, e := jobs.Parse(line); j.How != i+1 || e != api.OK {
			t.Errorf("%q: %s, %d", line, shown(j), e)
		}
	}
}

// P14.1, P14.3: other numbers are none, whatever stands beside.
func TestNoNumbers(t *testing.T) {
	mayNotAtAll(t, api.Job{})
	for _, kind := range noKinds() {
		for _, how := range append(allHows(), noHows()...) {
			for _, text := range []string{"", "a", "a*", " "} {
				mayNotAtAll(t, api.Job{Kind: kind, How: how, Text: text})
			}
		}
	}
	for _, how := range noHows() {
		for _, kind := range allKinds() {
			for _, text := range []string{"", "a", "name", " "} {
				mayNotAtAll(t, api.Job{Kind: kind, How: how, Text: text})
			}
		}
	}
}
