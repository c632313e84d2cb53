package evr_test

import (
	"math"
	"math/rand"
	"strings"
	"testing"

	"chandler/api"
	"chandler/evr"
)

type meeting struct {
	op    int
	a     string
	other int
	b     string
	want  bool
}

// meets asks both ways round (P3.6).
func meets(t *testing.T, kind int, c meeting) {
	t.Helper()
	if is, e := evr.Meets(kind, c.op, c.a, c.other, c.b); is != c.want || e != api.OK {
		t.Errorf("Meets %d %#v: %v, %v", kind, c, is, e)
	}
	if is, e := evr.Meets(kind, c.other, c.b, c.op, c.a); is != c.want || e != api.OK {
		t.Errorf("Meets %d %#v, the other way round: %v, %v", kind, c, is, e)
	}
}

// P3.5: the chapter's examples.
func TestMeetsExamples(t *testing.T) {
	for _, c := range []meeting{
		{api.More, "1.0", api.Less, "2.0", true}, {api.More, "2.0", api.Less, "1.0", false}, {api.Same, "1.0", api.Same, "1.0-5", true},
		{api.More | api.Same, "1.0", api.Same, "1.0", true}, {api.Less, "1.0", api.Less, "0.5", true},
	} {
		meets(t, api.Rpm, c)
	}
}

// common tells whether there is a number that fits a comparison with 4, and another one with the number with which 4 compares as c.
func common(op, other, c int) bool {
	fits := func(n, op, with int) bool {
		return op&api.Less != 0 && n < with || op&api.Same != 0 && n == with || op&api.More != 0 && n > with
	}
	for n := range 9 {
		if fits(n, op, 4) && fits(n, other, 4-2*c) {
			return true
		}
	}
	return false
}

// P3.5: all comparisons of a less, an equal and a greater version.
func TestMeetsAll(t *testing.T) {
	for _, kind := range []int{api.Rpm, api.Deb} {
		for c, pairs := range map[int][][2]string{
			-1: {{"1", "2"}, {"1-5", "1-6"}, {"9", "1:1"}, {"1-9", "2"}, {"1", "2-0"}, {"1~rc", "1"}, {"1~rc-1", "1-1"}},
			0:  {{"1", "1"}, {"1-1", "1-1"}, {"1", "1-5"}, {"1-0", "1"}, {"0:1", "1"}, {"01-02", "0:1-2"}, {"2:1", "2:1-~"}},
			1:  {{"2", "1"}, {"1-6", "1-5"}, {"1:1", "9-9"}, {"2-1", "1"}, {"1.1", "1"}},
		} {
			for _, p := range pairs {
				for op := 1; op <= 7; op++ {
					for other := 1; other <= 7; other++ {
						meets(t, kind, meeting{op, p[0], other, p[1], common(op, other, c)})
					}
				}
			}
		}
	}
}

// P3.5: a Release that one of them has not is not looked at, where Epoch and Version are the same, and just there.
func TestMeetsNoRelease(t *testing.T) {
	for _, kind := range []int{api.Rpm, api.Deb} {
		for _, release := range []string{"0", "1", "a", "~", "~1", "^", "."} {
			with := "1.0-" + release
			for _, c := range []meeting{
				{api.Same, "1.0", api.Same, with, true}, {api.More, "1.0", api.Same, with, false}, {api.Less, "1.0", api.Same, with, false},
				{api.More, "1.0", api.More, with, true}, {api.Less, "1.0", api.Less, with, true}, {api.More, "1.0", api.Less, with, false},
				{api.More | api.Same, "1.0", api.Less | api.Same, with, true}, {api.Less | api.More, "1.0", api.Same, with, false},
				{api.Same, "0:1.0", api.Same, with, true}, {api.Same, "1.00", api.Same, with, true}, {api.Same, "000:1.0", api.Same, "0:" + with, true},
				{api.Same, "1:1.0", api.Same, with, false}, {api.Same, "1.1", api.Same, with, false}, {api.More, "1.1", api.Same, with, false}, {api.Less, "1.1", api.Same, with, true},
			} {
				meets(t, kind, c)
			}
		}
		meets(t, kind, meeting{api.Same, "1.0-1", api.Same, "1.0-5", false})
		meets(t, kind, meeting{api.More, "1.0-1", api.Same, "1.0-5", true})
	}
}

// P3.5: beside an op of 0 versions are not looked at, those that may not be included.
func TestMeetsNoOp(t *testing.T) {
	for _, kind := range []int{api.Rpm, api.Deb} {
		for _, text := range []string{"1", "", "a:1", "\xff", strings.Repeat("1", 61), "1:", " "} {
			for op := range 8 {
				meets(t, kind, meeting{0, text, op, "2", true})
				meets(t, kind, meeting{0, "2", op, text, true})
				meets(t, kind, meeting{0, text, op, text, true})
			}
		}
	}
}

// P3.5: ops that are none, ahead of an op of 0, and of versions that may not be.
func TestMeetsRefused(t *testing.T) {
	for _, kind := range []int{api.Rpm, api.Deb} {
		for _, op := range []int{-1, 8, 9, 15, 16, -4, 1<<32 + 1, math.MinInt, math.MaxInt} {
			for _, other := range []int{0, 1, 7, 8, -1} {
				for _, text := range []string{"1", "", "1:"} {
					if is, e := evr.Meets(kind, op, text, other, "1"); is || e != api.ErrArg {
						t.Errorf("Meets %d %d %q %d: %v, %v", kind, op, text, other, is, e)
					}
					if is, e := evr.Meets(kind, other, "1", op, text); is || e != api.ErrArg {
						t.Errorf("Meets %d %d 1 %d %q: %v, %v", kind, other, op, text, is, e)
					}
				}
			}
		}
		for op := 1; op <= 7; op++ {
			for _, c := range [][2]string{{"", "1"}, {"1", ""}, {"1:", "1"}, {"1", "1-"}, {"a:1", "a:1"}} {
				if is, e := evr.Meets(kind, op, c[0], 7, c[1]); is || e != api.ErrEvrForm {
					t.Errorf("Meets %d %d %q: %v, %v", kind, op, c, is, e)
				}
			}
		}
	}
}

// P3.5, P3.6: of many versions, as Compare tells of them and of those without releases.
func TestMeetsMany(t *testing.T) {
	r := rand.New(rand.NewSource(5))
	for range 20000 {
		a := few(r)
		b := near(a, r)
		kind, op, other := 1+r.Intn(2), 1+r.Intn(7), 1+r.Intn(7)
		v, _ := evr.Parse(a)
		w, _ := evr.Parse(b)
		c := order(t, kind, a, b)
		if v.Release == "" || w.Release == "" {
			c = order(t, kind, strings.TrimSuffix(a, "-"+v.Release), strings.TrimSuffix(b, "-"+w.Release))
		}
		meets(t, kind, meeting{op, a, other, b, common(op, other, c)})
	}
}
