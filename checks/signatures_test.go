// Package checks holds tests of the project as a whole: what its packages offer, and how they are written.
package checks

import (
	"iter"
	"testing"

	"chandler/api"
	"chandler/arch"
	"chandler/attrs"
	"chandler/cache"
	"chandler/debctl"
	"chandler/dep"
	"chandler/desk"
	"chandler/diff"
	"chandler/evr"
	"chandler/ids"
	"chandler/jobs"
	"chandler/names"
	"chandler/order"
	"chandler/policy"
	"chandler/pool"
	"chandler/problem"
	"chandler/provides"
	"chandler/rpmmd"
	"chandler/rules"
	"chandler/sat"
	"chandler/solve"
	"chandler/suse"
	"chandler/xmlpull"
)

// What the chapters list, stage by stage: another signature would not compile here.

type bits interface {
	Set(n int, in bool) (bool, api.Errno)
	Has(n int) bool
	Count() int
	All() iter.Seq[int]
}

var (
	_ func([]int) []int                          = ids.Sort
	_ func([]int, []int) []int                   = ids.Union
	_ func([]int, []int) []int                   = ids.Meet
	_ func([]int, []int) []int                   = ids.Minus
	_ bits                                       = (*ids.Bits)(nil)
	_ func([]byte, uint64) []byte                = ids.Put
	_ func([]byte) (uint64, int, api.Errno)      = ids.Take
	_ func() *names.Table                        = names.New
	_ nameTable                                  = (*names.Table)(nil)
	_ func(string) (api.Evr, api.Errno)          = evr.Parse
	_ func(int, string, string) (int, api.Errno) = evr.Compare

	_ func(int, int, string, int, string) (bool, api.Errno) = evr.Meets

	_ func(string) (*arch.Table, api.Errno)                                 = arch.Parse
	_ archTable                                                             = (*arch.Table)(nil)
	_ func(api.Dep) api.Errno                                               = dep.Check
	_ func(string) (api.Dep, api.Errno)                                     = dep.Parse
	_ func(api.Dep) (string, api.Errno)                                     = dep.Print
	_ func(api.Dep) []string                                                = dep.Names
	_ func(string) bool                                                     = dep.Name
	_ func(int) (*pool.Pool, api.Errno)                                     = pool.New
	_ func(api.Package) api.Errno                                           = pool.Check
	_ func(api.Package) string                                              = pool.Text
	_ packages                                                              = (*pool.Pool)(nil)
	_ func(*pool.Pool) *provides.Index                                      = provides.New
	_ index                                                                 = (*provides.Index)(nil)
	_ func() *attrs.Store                                                   = attrs.New
	_ store                                                                 = (*attrs.Store)(nil)
	_ func(int, string, string) bool                                        = attrs.Fits
	_ func(*pool.Pool) ([]byte, api.Errno)                                  = cache.Write
	_ func([]byte) (*pool.Pool, api.Errno)                                  = cache.Read
	_ func(string) (*xmlpull.Reader, api.Errno)                             = xmlpull.New
	_ interface{ Next() (api.Piece, api.Errno) }                            = (*xmlpull.Reader)(nil)
	_ func(string) ([]api.Piece, api.Errno)                                 = xmlpull.All
	_ func(string) string                                                   = xmlpull.Escape
	_ func(string) ([]api.Package, api.Errno)                               = rpmmd.Parse
	_ func([]api.Package) (string, api.Errno)                               = rpmmd.Write
	_ func(string) ([]api.Package, api.Errno)                               = debctl.Parse
	_ func([]api.Package) (string, api.Errno)                               = debctl.Write
	_ func(string) ([]api.Package, api.Errno)                               = suse.Parse
	_ func([]api.Package) (string, api.Errno)                               = suse.Write
	_ func(string) (api.Job, api.Errno)                                     = jobs.Parse
	_ func(api.Job) (string, api.Errno)                                     = jobs.Print
	_ func(*pool.Pool, api.Job) ([]int, api.Errno)                          = jobs.Select
	_ func(*pool.Pool, api.Request) api.Errno                               = policy.Check
	_ func(*pool.Pool, api.Request) (*policy.Policy, api.Errno)             = policy.New
	_ policies                                                              = (*policy.Policy)(nil)
	_ func(*pool.Pool, api.Request) ([]api.Clause, []api.Demand, api.Errno) = rules.Make
	_ func(*pool.Pool, api.Request, []int) (bool, []bool, api.Errno)        = rules.Holds
	_ func(int, [][]int, []int) ([]bool, bool, api.Errno)                   = sat.Solve
	_ func(int, [][]int) ([]int, bool, api.Errno)                           = sat.Core
	_ func(*pool.Pool, api.Request) ([]int, bool, api.Errno)                = solve.Solve
	_ func(*pool.Pool, api.Request) ([]api.Problem, api.Errno)              = problem.Find
	_ func(api.Problem) []api.Edit                                          = problem.Solutions
	_ func(api.Request, []api.Edit) (api.Request, api.Errno)                = problem.Apply
	_ func(*pool.Pool, api.Request, api.Problem) string                     = problem.Print
	_ func(*pool.Pool, []int, []int) ([]api.Step, api.Errno)                = diff.Steps
	_ func([]int, []api.Step) []int                                         = diff.Apply
	_ func(*pool.Pool, []int, []int) ([]api.Step, []api.Break, api.Errno)   = order.Order
	_ func(api.Script) (*pool.Pool, int, api.Errno)                         = desk.Load
	_ func(*pool.Pool, api.Script) (api.Told, int, api.Errno)               = desk.Ask
	_ func(api.Script) (api.Told, int, api.Errno)                           = desk.Run
)

type nameTable interface {
	Add(name string) (int, api.Errno)
	Find(name string) (int, bool)
	Name(id int) (string, api.Errno)
	Len() int
	Relate(name, op, evr int) (int, api.Errno)
	Relation(id int) (name, op, evr int, err api.Errno)
	Relations() int
}

type archTable interface {
	Score(arch string) int
	Better(a, b string) int
}

type packages interface {
	Add(r api.Repo) api.Errno
	Kind() int
	Len() int
	Package(id int) (api.Package, int, api.Errno)
	Repos() []api.Repo
	Installed() []int
	Named(name string) []int
}

type index interface {
	Who(d api.Dep) ([]int, api.Errno)
	Met(d api.Dep, system []int) (bool, api.Errno)
	Obsoleted(d api.Dep) ([]int, api.Errno)
}

type store interface {
	Set(id int, key string, v api.Value) api.Errno
	Get(id int, key string) (api.Value, api.Errno)
	Unset(id int, key string) api.Errno
	Keys() []string
	Schema(id int) []string
	Schemas() int
	Search(key string, how int, text string) ([]int, api.Errno)
	Dir(path string) (int, api.Errno)
	Path(n int) (string, int, api.Errno)
}

type policies interface {
	Better(a, b int) (int, api.Errno)
	May(id int) bool
	Keeps(id int) ([]int, bool)
}

// Section Words: comparisons are sums of these, and the limits are these.
func TestWords(t *testing.T) {
	if api.Less != 1 || api.Same != 2 || api.More != 4 {
		t.Errorf("comparisons: %d, %d, %d", api.Less, api.Same, api.More)
	}
	for name, c := range map[string]struct{ is, want int }{
		"MaxName": {api.MaxName, 60}, "MaxEvr": {api.MaxEvr, 60},
		"MaxPackages": {api.MaxPackages, 200}, "MaxRepos": {api.MaxRepos, 8},
		"MaxDeps": {api.MaxDeps, 16}, "MaxFiles": {api.MaxFiles, 16},
		"MaxDepParts": {api.MaxDepParts, 16}, "MaxText": {api.MaxText, 40000},
		"MaxJobs": {api.MaxJobs, 32}, "MaxVars": {api.MaxVars, 400},
		"MaxClauses": {api.MaxClauses, 2000000}, "MaxNames": {api.MaxNames, 5000},
		"MaxValue": {api.MaxValue, 200}, "MaxKeys": {api.MaxKeys, 64},
		"MaxDirs": {api.MaxDirs, 2000}, "MaxDepth": {api.MaxDepth, 16},
		"MaxAttrs": {api.MaxAttrs, 16}, "MaxArches": {api.MaxArches, 16},
	} {
		if c.is != c.want {
			t.Errorf("%s is %d, not %d", name, c.is, c.want)
		}
	}
}
