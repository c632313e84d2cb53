package checks

import (
	"bytes"
	"go/ast"
	"go/format"
	"go/parser"
	"go/token"
	"os"
	"path/filepath"
	"slices"
	"strconv"
	"strings"
	"testing"
)

const root = ".."

// layers are the layers' packages, in the order of their stages.
func layers() []string {
	return []string{
		"ids", "names", "evr", "arch", "dep", "pool", "provides", "attrs", "cache", "xmlpull", "rpmmd",
		"debctl", "suse", "jobs", "policy", "rules", "sat", "solve", "problem", "diff", "order", "desk",
	}
}

// library are the packages of the library that the program may use.
func library() []string {
	return []string{
		"bytes", "cmp", "container/heap", "errors", "iter", "maps", "math", "math/bits", "slices", "sort",
		"strconv", "strings", "sync", "sync/atomic", "unicode", "unicode/utf8",
	}
}

type source struct {
	pack string // the folder's name
	path string
	text []byte
	fset *token.FileSet
	file *ast.File
}

// sources are the program's files: those of its packages that are no tests.
func sources(t *testing.T) []source {
	t.Helper()
	var out []source
	for _, pack := range append(layers(), "api") {
		paths, err := filepath.Glob(filepath.Join(root, pack, "*.go"))
		if err != nil {
			t.Fatal(err)
		}
		for _, path := range paths {
			if !strings.HasSuffix(path, "_test.go") {
				out = append(out, readSource(t, pack, path))
			}
		}
	}
	return out
}

func readSource(t *testing.T, pack, path string) source {
	t.Helper()
	text, err := os.ReadFile(path)
	if err != nil {
		t.Fatal(err)
	}
	fset := token.NewFileSet()
	file, err := parser.ParseFile(fset, path, text, parser.ParseComments)
	if err != nil {
		t.Fatal(err)
	}
	return source{pack: pack, path: path, text: text, fset: fset, file: file}
}

// All packages are there, and no other file beside the Go files lies in one.
func TestFiles(t *testing.T) {
	have := map[string]int{}
	for _, s := range sources(t) {
		have[s.pack]++
	}
	for _, l := range append(layers(), "api") {
		if have[l] == 0 {
			t.Errorf("package %s is lacking", l)
		}
		all, err := os.ReadDir(filepath.Join(root, l))
		if err != nil {
			t.Fatal(err)
		}
		for _, f := range all {
			if f.IsDir() || !strings.HasSuffix(f.Name(), ".go") {
				t.Errorf("%s has %s", l, f.Name())
			}
		}
	}
}

// What is imported: the library's listed packages, api, and layers below.
func TestImports(t *testing.T) {
	for _, s := range sources(t) {
		for _, i := range s.file.Imports {
			path, err := strconv.Unquote(i.Path.Value)
			if err != nil {
				t.Fatal(err)
			}
			own, is := strings.CutPrefix(path, "chandler/")
			if !is && !slices.Contains(library(), path) {
				t.Errorf("%s imports %s", s.path, path)
			}
			if is && !below(s.pack, own) {
				t.Errorf("%s imports %s, which is no layer below it", s.path, path)
			}
		}
	}
}

// below tells whether a layer may call a package: api and what is no layer any may, api none.
func below(layer, pack string) bool {
	from, to := slices.Index(layers(), layer), slices.Index(layers(), pack)
	return layer != "api" && to < from
}

// gofmt's layout, short functions, and no line for the compiler.
func TestLayout(t *testing.T) {
	for _, s := range sources(t) {
		if f, err := format.Source(s.text); err != nil || !bytes.Equal(f, s.text) {
			t.Errorf("%s: not gofmt's layout (%v)", s.path, err)
		}
		if bytes.Contains(s.text, []byte("//go:")) || bytes.Contains(s.text, []byte("// +build")) {
			t.Errorf("%s: a line for the compiler", s.path)
		}
		for _, d := range s.file.Decls {
			if f, ok := d.(*ast.FuncDecl); ok {
				if n := s.fset.Position(f.End()).Line - s.fset.Position(f.Pos()).Line + 1; n > 60 {
					t.Errorf("%s: %s has %d lines", s.path, f.Name.Name, n)
				}
			}
		}
	}
}

// At package level stand constants, short tables and errors: no map, no function, no call but errors.New, no variable without a value.
func TestPackageLevel(t *testing.T) {
	for _, s := range sources(t) {
		for _, d := range s.file.Decls {
			g, ok := d.(*ast.GenDecl)
			if !ok || g.Tok != token.VAR {
				continue
			}
			for _, x := range g.Specs {
				v := x.(*ast.ValueSpec)
				if len(v.Values) == 0 {
					t.Errorf("%s: %s has no value of its own", s.path, v.Names[0].Name)
				}
				ast.Inspect(v, func(n ast.Node) bool {
					if forbidden(n) {
						t.Errorf("%s: %s may not stand at package level", s.path, v.Names[0].Name)
					}
					return true
				})
			}
		}
	}
}

func forbidden(n ast.Node) bool {
	switch x := n.(type) {
	case *ast.MapType, *ast.FuncType, *ast.FuncLit, *ast.StarExpr:
		return true
	case *ast.UnaryExpr:
		return x.Op == token.AND
	case *ast.CallExpr:
		s, ok := x.Fun.(*ast.SelectorExpr)
		if !ok {
			return true
		}
		p, ok := s.X.(*ast.Ident)
		return !ok || p.Name != "errors" || s.Sel.Name != "New"
	}
	return false
}
