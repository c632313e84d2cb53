package evr_test

import (
	"math"
	"strings"
	"testing"
	"unsafe"

	"chandler/api"
	"chandler/evr"
)

// letters are those that a version may have.
const letters = "abcdefghijklmnopqrstuvwxyzABCDEFGHIJKLMNOPQRSTUVWXYZ"

func parses(t *testing.T, text string, want api.Evr) {
	t.Helper()
	if v, e := evr.Parse(text); v != want || e != api.OK {
		t.Errorf("Parse %q: %q, %v, not %q", text, v, e, want)
	}
}

// refuses: no call takes the text as a version, wherever it stands.
func refuses(t *testing.T, text string) {
	t.Helper()
	if v, e := evr.Parse(text); v != (api.Evr{}) || e != api.ErrEvrForm {
		t.Errorf("Parse %q: %q, %v", text, v, e)
	}
	for _, kind := range []int{api.Rpm, api.Deb} {
		for _, c := range [][2]string{{text, "1"}, {"1", text}, {text, text}} {
			if n, e := evr.Compare(kind, c[0], c[1]); n != 0 || e != api.ErrEvrForm {
				t.Errorf("Compare %d %q: %d, %v", kind, c, n, e)
			}
			if is, e := evr.Meets(kind, 7, c[0], 7, c[1]); is || e != api.ErrEvrForm {
				t.Errorf("Meets %d %q: %v, %v", kind, c, is, e)
			}
		}
	}
}

// P3.1: the chapter's examples.
func TestParseExamples(t *testing.T) {
	parses(t, "2:1.0-rc1-3", api.Evr{Epoch: "2", Version: "1.0-rc1", Release: "3"})
	parses(t, "1.0", api.Evr{Version: "1.0"})
	for _, text := range []string{"-1", "a:1", "1:"} {
		refuses(t, text)
	}
}

// P3.1: what is told ahead of the first `:`, ahead of the last `-`, and behind it.
func TestParse(t *testing.T) {
	for text, want := range map[string]api.Evr{
		"1":                {Version: "1"},
		"a":                {Version: "a"},
		"~":                {Version: "~"},
		".":                {Version: "."},
		"-1-2":             {Version: "-1", Release: "2"},
		"--1":              {Version: "-", Release: "1"},
		"1-2":              {Version: "1", Release: "2"},
		"1--2":             {Version: "1-", Release: "2"},
		"1-2-3-4":          {Version: "1-2-3", Release: "4"},
		"1-~":              {Version: "1", Release: "~"},
		"1-a.b_c+d~e^f":    {Version: "1", Release: "a.b_c+d~e^f"},
		"0:1":              {Epoch: "0", Version: "1"},
		"007:1":            {Epoch: "007", Version: "1"},
		"1:2-3":            {Epoch: "1", Version: "2", Release: "3"},
		"1:a":              {Epoch: "1", Version: "a"},
		"1:--a":            {Epoch: "1", Version: "-", Release: "a"},
		"12:0._+~^-x-Az09": {Epoch: "12", Version: "0._+~^-x", Release: "Az09"},
	} {
		parses(t, text, want)
	}
}

// P3.1: no version, or no release behind a `-`, or a `:` too many, or no number ahead of it.
func TestParseRefused(t *testing.T) {
	for _, text := range []string{
		"", "-", "--", "---", "-a", "1-", "1-2-", "1--", ":", "::", ":1", "1:", "1:-", "1:-1", "1:1-", "-:1",
		"1:2:3", "1::2", "1:2-3:4", "1:2:", "1:2-:", ":1:2", "a:1", "1a:1", "a1:1", "1.0:1", "1-1:1", "~:1", "-1:1", "+1:1", "1 :1",
		"1 0", " 1", "1 ", "1\n", "\x001", "1,0", "1/0", "1=0", "1(0", "é", "1.\xc3", "1\xff", "１", "1:é", "1-é",
	} {
		refuses(t, text)
	}
}

// P3.1, R7: of all bytes just those that are named may be.
func TestBytes(t *testing.T) {
	for n := range 256 {
		c := string([]byte{byte(n)})
		for _, text := range []string{"1" + c + "1-1", "1-1" + c + "1", "1:1" + c + "1-1"} {
			_, e := evr.Parse(text)
			may := strings.Contains(letters+"0123456789._+~^-", c) || c == ":" && text == "1:1-1"
			if may != (e == api.OK) {
				t.Errorf("Parse %q: %v", text, e)
			}
			if !may {
				refuses(t, text)
			}
		}
	}
}

// P3.1: MaxEvr at its edge, wherever the bytes are.
func TestMaxEvr(t *testing.T) {
	long := strings.Repeat("1", 60)
	parses(t, long, api.Evr{Version: long})
	refuses(t, long+"1")
	parses(t, "1:"+long[:56]+"-1", api.Evr{Epoch: "1", Version: long[:56], Release: "1"})
	refuses(t, "1:"+long[:57]+"-1")
	parses(t, "1-"+long[:58], api.Evr{Version: "1", Release: long[:58]})
	refuses(t, "1-"+long[:59])
	refuses(t, strings.Repeat("1.", 100000))
	refuses(t, strings.Repeat("-", 100000))
	refuses(t, strings.Repeat(":", 61))
}

// P3.1: nine digits of an epoch at their edge.
func TestMaxEpoch(t *testing.T) {
	for _, epoch := range []string{"0", "1", "999999999", "000000000", "000000001"} {
		parses(t, epoch+":1", api.Evr{Epoch: epoch, Version: "1"})
	}
	for _, epoch := range []string{"1000000000", "0000000000", "0000000001", "12345678901234567890", strings.Repeat("0", 58)} {
		refuses(t, epoch+":1")
	}
}

// R1, P3.2, P3.5: numbers that are no kind, ahead of versions that may not be.
func TestNoKind(t *testing.T) {
	for _, kind := range []int{0, 3, -1, 4, 257, 1<<32 + 1, math.MinInt, math.MaxInt} {
		for _, text := range []string{"1", "2:1.0-1", "", "a:1", strings.Repeat("1", 61)} {
			if n, e := evr.Compare(kind, text, "1"); n != 0 || e != api.ErrArg {
				t.Errorf("Compare %d %q: %d, %v", kind, text, n, e)
			}
			if n, e := evr.Compare(kind, "1", text); n != 0 || e != api.ErrArg {
				t.Errorf("Compare %d 1 %q: %d, %v", kind, text, n, e)
			}
			for _, op := range []int{0, 1, 7, 8, -1} {
				if is, e := evr.Meets(kind, op, text, 7, "1"); is || e != api.ErrArg {
					t.Errorf("Meets %d %d %q: %v, %v", kind, op, text, is, e)
				}
				if is, e := evr.Meets(kind, 7, "1", op, text); is || e != api.ErrArg {
					t.Errorf("Meets %d 1 %d %q: %v, %v", kind, op, text, is, e)
				}
			}
		}
	}
}

// R4: the parts' memory is not that of the text.
func TestPartsAreNew(t *testing.T) {
	text := strings.Clone("12:1.0-rc1-3")
	v, e := evr.Parse(text)
	if e != api.OK {
		t.Fatal(e)
	}
	from := uintptr(unsafe.Pointer(unsafe.StringData(text)))
	for _, part := range []string{v.Epoch, v.Version, v.Release} {
		at := uintptr(unsafe.Pointer(unsafe.StringData(part)))
		if at >= from && at < from+uintptr(len(text)) {
			t.Errorf("%q is a piece of the text", part)
		}
	}
	w, _ := evr.Parse(text)
	if unsafe.StringData(v.Version) == unsafe.StringData(w.Version) {
		t.Error("two answers share memory")
	}
}

// R5: what a call answers hangs on nothing that was asked before.
func TestCallsApart(t *testing.T) {
	for range 3 {
		compares(t, api.Rpm, "1.0~rc1", "1.0", -1)
		compares(t, api.Deb, "1.0-1", "1.0-0", 1)
		refuses(t, "1:")
		parses(t, "1:1", api.Evr{Epoch: "1", Version: "1"})
	}
}

// Section Errors of the chapter: the errors' numbers, as the calls answer them.
func TestErrors(t *testing.T) {
	_, fine := evr.Parse("1")
	_, form := evr.Parse("")
	_, kind := evr.Compare(0, "1", "1")
	_, op := evr.Meets(api.Rpm, 8, "1", 0, "1")
	for _, c := range []struct {
		e    api.Errno
		want int
	}{{fine, 0}, {kind, 1}, {op, 1}, {form, 30}} {
		if int(c.e) != c.want {
			t.Errorf("error %d is %d", c.want, int(c.e))
		}
	}
	if api.Rpm != 1 || api.Deb != 2 {
		t.Errorf("kinds: %d, %d", api.Rpm, api.Deb)
	}
}
