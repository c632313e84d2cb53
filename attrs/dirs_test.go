package attrs_test

import (
	"math"
	"math/rand"
	"reflect"
	"slices"
	"strconv"
	"strings"
	"testing"

	"chandler/api"
	"chandler/attrs"
)

func dirIs(t *testing.T, s *attrs.Store, path string, want int) {
	t.Helper()
	if n, e := s.Dir(path); e != api.OK || n != want {
		t.Fatalf("Dir %q: %d, %v, not %d", path, n, e, want)
	}
}

func pathIs(t *testing.T, s *attrs.Store, n int, want string, up int) {
	t.Helper()
	if path, in, e := s.Path(n); e != api.OK || path != want || in != up {
		t.Errorf("Path %d: %q in %d, %v, not %q in %d", n, path, in, e, want, up)
	}
}

func noPath(t *testing.T, s *attrs.Store, n int) {
	t.Helper()
	if path, in, e := s.Path(n); e != api.ErrAttrsNone || path != "" || in != 0 {
		t.Errorf("Path %d: %q in %d, %v", n, path, in, e)
	}
}

// refuseDir: the error, and nothing is changed.
func refuseDir(t *testing.T, s *attrs.Store, path string, want api.Errno) {
	t.Helper()
	before := tell(t, s)
	if n, e := s.Dir(path); e != want || n != 0 {
		t.Errorf("Dir %q: %d, %v, not %v", path, n, e, want)
	}
	if after := tell(t, s); !reflect.DeepEqual(after, before) {
		t.Errorf("Dir %q, which was refused, changed the directories", path)
	}
}

// P8.4: a directory has a number, those that it is in the numbers ahead of its own, from the first one on.
func TestDir(t *testing.T) {
	s := attrs.New()
	dirIs(t, s, "/", 0)
	dirIs(t, s, "/a/b/c", 3)
	dirIs(t, s, "/a", 1)
	dirIs(t, s, "/a/b", 2)
	dirIs(t, s, "/a/x/c", 5)
	dirIs(t, s, "/b", 6)
	dirIs(t, s, "/b/b", 7)
	dirIs(t, s, "/a/x", 4)
	dirIs(t, s, "/", 0)
	dirIs(t, s, "/c/b/a", 10)
	dirIs(t, s, "/a/b/c", 3)
	for n, want := range []place{
		{"/", 0}, {"/a", 0}, {"/a/b", 1}, {"/a/b/c", 2}, {"/a/x", 1}, {"/a/x/c", 4}, {"/b", 0}, {"/b/b", 6}, {"/c", 0}, {"/c/b", 8}, {"/c/b/a", 9},
	} {
		pathIs(t, s, n, want.path, want.up)
		dirIs(t, s, want.path, n)
	}
	for _, n := range []int{-1, 11, 12, 2000, math.MinInt, math.MaxInt, 1 << 32, 1<<32 + 1} {
		noPath(t, s, n)
	}
}

// P8.4: paths that may be, though they look odd, unlike ones being unlike directories.
func TestPaths(t *testing.T) {
	s := attrs.New()
	for i, path := range []string{
		"/...", "/.a", "/a.", "/..a", "/a..", "/....", "/!", "/~", "/*", "/?", `/\`, "/a:b", "/A", "/a", "/A\"b", "/%2e", "/-", "/(", "/...x",
		"/" + strings.Repeat("p", 199),
	} {
		dirIs(t, s, path, i+1)
		pathIs(t, s, i+1, path, 0)
	}
}

// P8.4: paths that may not be.
func TestNoPaths(t *testing.T) {
	s := attrs.New()
	for range 2 {
		for _, path := range []string{
			"", "a", "a/b", "a/", " ", " /", "//", "///", "/a/", "//a", "/a//b", "/a/b/", "/a/b//", ".", "..", "./a", "/.", "/..", "/./", "/a/.", "/a/..", "/./a", "/../a", "/a/./b", "/a/../b",
			"/ ", "/a b", "/a ", "/a/ /b", "/\x00", "/a\n", "/\x7f", "/\x1f", "/é", "/a/\xff", "/\x80", "\x00/a", "/a/b\x7f/c", "/a\t/b", "/\u2215", `\a`,
		} {
			refuseDir(t, s, path, api.ErrAttrsPath)
		}
		dirIs(t, s, "/a/b", 2)
	}
}

// P8.4: each byte as a part, and within one.
func TestPathBytes(t *testing.T) {
	for n := range 256 {
		c := string([]byte{byte(n)})
		may := n >= 33 && n <= 126 && c != "/"
		for path, is := range map[string]bool{"/" + c: may && c != ".", "/x/" + c + "/y": may && c != ".", "/a" + c: may, "/a" + c + "b": may || c == "/", "/" + c + "b": may} {
			s := attrs.New()
			if !is {
				refuseDir(t, s, path, api.ErrAttrsPath)
				continue
			}
			dirIs(t, s, path, strings.Count(path, "/"))
			pathIs(t, s, strings.Count(path, "/"), path, strings.Count(path, "/")-1)
		}
	}
}

// P8.4: MaxValue at its edge, of one part, and of as many as may be.
func TestMaxPath(t *testing.T) {
	s := attrs.New()
	one, many := "/"+strings.Repeat("p", 199), strings.Repeat("/p", 100)
	for _, path := range []string{one + "p", many + "p", many + "/p", "/" + many, strings.Repeat("/p", 100000), "/" + strings.Repeat("p", 100000), strings.Repeat("/", 100000)} {
		refuseDir(t, s, path, api.ErrAttrsPath)
	}
	dirIs(t, s, one, 1)
	dirIs(t, s, many, 101)
	pathIs(t, s, 101, many, 100)
	pathIs(t, s, 51, many[:100], 50)
	pathIs(t, s, 1, one, 0)
	dirIs(t, s, many[:198]+"q", 102)
	pathIs(t, s, 102, many[:198]+"q", 99)
}

// P8.4: MaxDirs at its edge: `/` is one of them; where there is no room for all that a directory is in, none comes.
func TestMaxDirs(t *testing.T) {
	s := attrs.New()
	for n := 1; n < 1998; n++ {
		dirIs(t, s, "/d/"+strconv.Itoa(n), n+1)
	}
	noPath(t, s, 1999)
	refuseDir(t, s, "/x/y", api.ErrAttrsMany)
	refuseDir(t, s, "/d/x/y", api.ErrAttrsMany)
	refuseDir(t, s, strings.Repeat("/p", 100), api.ErrAttrsMany)
	refuseDir(t, s, "/x/..", api.ErrAttrsPath)
	noPath(t, s, 1999)
	dirIs(t, s, "/d/1997", 1998)
	dirIs(t, s, "/d/1/x", 1999)
	refuseDir(t, s, "/x", api.ErrAttrsMany)
	refuseDir(t, s, "/d/1/y", api.ErrAttrsMany)
	refuseDir(t, s, "/d/1/x/y", api.ErrAttrsMany)
	refuseDir(t, s, "/x/", api.ErrAttrsPath)
	refuseDir(t, s, "x", api.ErrAttrsPath)
	noPath(t, s, 2000)
	dirIs(t, s, "/", 0)
	dirIs(t, s, "/d", 1)
	dirIs(t, s, "/d/1/x", 1999)
	pathIs(t, s, 1999, "/d/1/x", 2)
	pathIs(t, s, 1998, "/d/1997", 1)
	set(t, s, 1, "a", num(1))
}

// P8.4, P8.5: of many paths, beside a list that is looked through; a path is put together of that of the one that it is in, and its last part.
func TestManyDirs(t *testing.T) {
	for seed := range int64(20) {
		r := rand.New(rand.NewSource(seed))
		s, want := attrs.New(), []string{"/"}
		for range 300 {
			path := ""
			for range 1 + r.Intn(5) {
				path += "/" + []string{"a", "b", "ab", ".a", "a.b"}[r.Intn(5)]
				if !slices.Contains(want, path) {
					want = append(want, path)
				}
			}
			if r.Intn(9) == 0 {
				refuseDir(t, s, path+[]string{"/", "/.", "/..", " ", "/a b"}[r.Intn(5)], api.ErrAttrsPath)
			}
			dirIs(t, s, path, slices.Index(want, path))
		}
		for n, path := range want[1:] {
			last := strings.LastIndex(path, "/")
			pathIs(t, s, n+1, path, slices.Index(want, path[:max(1, last)]))
		}
		noPath(t, s, len(want))
	}
}
