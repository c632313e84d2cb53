package suse_test

import (
	"cmp"
	"reflect"
	"runtime"
	"slices"
	"strings"
	"testing"
	"unsafe"

	"chandler/api"
	"chandler/suse"
)

// laid is a text in memory that can be written over.
func laid(s string) (string, []byte) {
	b := []byte(s)
	return unsafe.String(&b[0], len(b)), b
}

func blot(b []byte) {
	for i := range b {
		b[i] = '#'
	}
}

// R4: a text that is handed in is not kept.
func TestTextNotKept(t *testing.T) {
	p, text := full()
	for _, s := range []string{text + must + text, "=Pkg: aa 11 22 noarch\n=Vnd: vv\n=Fls: /ff\n=Req: bb >= 12\n", "=Pkg:aa 11 - noarch\n" + block("Vnd", "ww", "vv") + "\n" + block("Fls", "/ff", " /gg") + "\n" + block("Con", "bb", "(cc or dd = 11)")} {
		want, e := suse.Parse(s)
		text, b := laid(s)
		l, f := suse.Parse(text)
		blot(b)
		if e != api.OK || f != api.OK || !same(l, want) {
			t.Errorf("%s, %d, not %s, %d", shown(l), f, shown(want), e)
		}
	}
	reads(t, text, p)
}

// span is memory of a list, its spare room included.
type span struct{ from, to uintptr }

func spanOf[T any](l []T) span {
	var x T
	from := uintptr(unsafe.Pointer(unsafe.SliceData(l)))
	return span{from, from + uintptr(cap(l))*unsafe.Sizeof(x)}
}

// depSpans are the memory of a list, and of those within it.
func depSpans(l []api.Dep) []span {
	out := []span{spanOf(l)}
	for _, d := range l {
		out = append(out, depSpans(d.Args)...)
	}
	return out
}

// spans are the memory of all lists of an answer.
func spans(l []api.Package) []span {
	out := []span{spanOf(l)}
	for _, p := range l {
		for _, f := range relatedTags() {
			out = append(out, depSpans(*f.in(&p))...)
		}
		out = append(out, spanOf(p.Files))
	}
	return out
}

// R4: what is answered is new memory: no two lists share any, of one answer and of two, spare room too.
func TestListsApart(t *testing.T) {
	_, one := full()
	text := one + one + must + lines("=Req: b", "=Fls: /x") + lines(block("Con", "b", "(c or d)", "(c or d)")) + lines(block("Fls", "/x", "/x", "/x"))
	l, _ := suse.Parse(text)
	m, _ := suse.Parse(text)
	all := slices.DeleteFunc(append(spans(l), spans(m)...), func(s span) bool { return s.from == s.to })
	slices.SortFunc(all, func(a, b span) int { return cmp.Compare(a.from, b.from) })
	if len(all) < 2*(1+2*(8+7)+2+3+1) {
		t.Errorf("no more than %d lists", len(all))
	}
	for i := 1; i < len(all); i++ {
		if all[i].from < all[i-1].to {
			t.Errorf("two lists share memory: %v, %v", all[i-1], all[i])
		}
	}
	runtime.KeepAlive(l)
	runtime.KeepAlive(m)
}

// room is packages with spare room, which has something in it.
func room() []api.Package {
	p, _ := full()
	for _, f := range relatedTags() {
		l := *f.in(&p)
		for i, d := range l {
			if d.Args != nil {
				l[i].Args = append(d.Args, named("args"), compared("args", 9, "("))[:len(d.Args)]
			}
		}
		*f.in(&p) = append(l, compared("spare", 9, "1"), named("("))[:len(l)]
	}
	p.Files = append(p.Files, "spare", "room")[:len(p.Files)]
	return append([]api.Package{p, pack("a", "1"), p}, pack("(", ""), pack("spare", "1"))[:3]
}

// allOf is all that lists have, spare room too.
func allOf(l []api.Package) []api.Package {
	out := slices.Clone(l[:cap(l)])
	for i := range out {
		for _, f := range relatedTags() {
			deps := slices.Clone((*f.in(&out[i]))[:cap(*f.in(&out[i]))])
			for j := range deps {
				deps[j].Args = slices.Clone(deps[j].Args[:cap(deps[j].Args)])
			}
			*f.in(&out[i]) = deps
		}
		out[i].Files = slices.Clone(out[i].Files[:cap(out[i].Files)])
	}
	return out
}

// R4: what is handed to Write is not changed, and its spare room is neither changed nor written.
func TestNotChanged(t *testing.T) {
	p, _ := full()
	text := writes(t, p, pack("a", "1"), p)
	wrong, files, op := room(), room(), room()
	wrong[2].Arch = "X"
	files[0].Files = []string{"x"}
	op[2].Conflicts = append(op[2].Conflicts, compared("b", 9, "1"))
	for _, l := range [][]api.Package{room(), wrong, files, op} {
		was := allOf(l)
		again, e := suse.Write(l)
		if e == api.OK && again != text {
			t.Errorf("%q, not %q", again, text)
		}
		if !reflect.DeepEqual(allOf(l), was) {
			t.Errorf("%s became %s", shown(was), shown(allOf(l)))
		}
	}
	if _, e := suse.Write(room()); e != api.OK {
		t.Errorf("%d", e)
	}
}

// R4: texts that are handed to Write are not kept.
func TestWrittenNotKept(t *testing.T) {
	name, b := laid("bb")
	p := api.Package{Name: name, Evr: name, Arch: name, Vendor: name, Requires: []api.Dep{named(name), of(api.DOr, named(name), compared(name, 2, name))}}
	text, e := suse.Write([]api.Package{p})
	was := strings.Clone(text)
	blot(b)
	if e != api.OK || text != was {
		t.Errorf("%q became %q, %d", was, text, e)
	}
}

// R3, R5: calls leave nothing behind: what is answered is the same, whatever was asked ahead.
func TestApart(t *testing.T) {
	p, text := full()
	first := writes(t, p)
	for range 20 {
		refuses(t, text+"=Pkg: x 1: - a", api.ErrPoolEvr)
		refuses(t, text+"+Req:\nb\n", api.ErrSuseForm)
		keeps(t, api.ErrPoolName, p, api.Package{})
		reads(t, text+must, p, pack("a", "1"))
		reads(t, must, pack("a", "1"))
		refuses(t, "=Req: b", api.ErrSuseForm)
		if again := writes(t, p); again != first {
			t.Errorf("%q, not %q", again, first)
		}
	}
}

// R4: of lists without elements nothing is told; they may be nil or not.
func TestEmptyLists(t *testing.T) {
	bare, empty := pack("a", "1"), pack("a", "1")
	for _, f := range relatedTags() {
		*f.in(&empty) = []api.Dep{}
	}
	empty.Files = []string{}
	if text := writes(t, empty); text != writes(t, bare) {
		t.Errorf("%q", text)
	}
	bare.Pre = []api.Dep{named("b")}
	empty.Pre = []api.Dep{{Kind: api.DName, Name: "b", Args: []api.Dep{}}}
	if text := writes(t, empty); text != writes(t, bare) {
		t.Errorf("%q", text)
	}
}

// What is answered keeps no more than itself: not the text in which it stood.
func TestKeepsNoText(t *testing.T) {
	const texts = 500
	inUse := func() uint64 {
		runtime.GC()
		var m runtime.MemStats
		runtime.ReadMemStats(&m)
		return m.HeapAlloc
	}
	before := inUse()
	var kept [][]api.Package
	for n := range texts {
		var parts [6]string
		parts[n%6] = strings.Repeat(" ", 9000)
		l, e := suse.Parse("=Pkg: a 1" + parts[0] + " - noarch\n" + parts[1] + "\n=Vnd: v\n=Req: b " + parts[2] + "= 1\n+Fls:\n" + parts[3] + "/f" + parts[4] + "\n/g\n-Fls:\n+Con:\nb\n-Con:" + parts[5])
		if e != api.OK {
			t.Fatal(e)
		}
		kept = append(kept, l)
	}
	if more := inUse(); more > before+texts*9000/2 {
		t.Errorf("%d bytes more", more-before)
	}
	runtime.KeepAlive(kept)
}
