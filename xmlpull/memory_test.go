package xmlpull_test

import (
	"runtime"
	"strings"
	"testing"
	"unsafe"

	"chandler/api"
	"chandler/xmlpull"
)

// whole is a text with all kinds of pieces, in memory that can be written over, and what stands in it.
func whole() ([]byte, string, []api.Piece) {
	b := []byte(`<abc x="1" yy='two'><d z="3" w="4"/>text<e x="5"></e><![CDATA[more]]></abc>`)
	return b, unsafe.String(&b[0], len(b)), []api.Piece{
		start("abc", "x", "1", "yy", "two"), start("d", "z", "3", "w", "4"), end("d"), words("text"), start("e", "x", "5"), end("e"), words("more"), end("abc"),
	}
}

func blot(b []byte) {
	for i := range b {
		b[i] = '#'
	}
}

func blotAttrs(p api.Piece) {
	l := p.Attrs[:cap(p.Attrs)]
	for i := range l {
		l[i] = api.Attr{Name: "blot", Value: "blot"}
	}
}

// R4: a text that is handed in is not kept: neither by a reader nor in what is answered.
func TestTextNotKept(t *testing.T) {
	b, text, want := whole()
	l, e := xmlpull.All(text)
	r, f := xmlpull.New(text)
	if e != api.OK || f != api.OK {
		t.Fatal(e, f)
	}
	p, e := r.Next()
	blot(b)
	if e != api.OK || !same(p, want[0]) {
		t.Errorf("%v, %d, not %v", p, e, want[0])
	}
	for i, w := range want {
		if !same(l[i], w) {
			t.Errorf("All: %v, not %v", l[i], w)
		}
	}
	for _, w := range want[1:] {
		if p, e := r.Next(); e != api.OK || !same(p, w) {
			t.Errorf("Next: %v, %d, not %v", p, e, w)
		}
	}
}

// R4: what is escaped is new memory, even if it is just the text.
func TestEscapeNotShared(t *testing.T) {
	for _, s := range []string{"abc", "<", "a<b", "\n"} {
		b := []byte(s)
		want := xmlpull.Escape(s)
		e := xmlpull.Escape(unsafe.String(&b[0], len(b)))
		blot(b)
		if e != want {
			t.Errorf("%q: %q, not %q", s, e, want)
		}
	}
}

// R4: no list that is answered is memory of the reader, or of another piece.
func TestAttrsApart(t *testing.T) {
	_, text, want := whole()
	l, _ := xmlpull.All(text)
	other, _ := xmlpull.All(text)
	for i, w := range want {
		if !same(l[i], w) || !same(other[i], w) {
			t.Errorf("%v and %v, not %v", l[i], other[i], w)
		}
		blotAttrs(l[i])
	}
	r, _ := xmlpull.New(text)
	again, _ := xmlpull.New(text)
	for _, w := range want {
		p, e := r.Next()
		q, f := again.Next()
		if e != api.OK || f != api.OK || !same(p, w) || !same(q, w) {
			t.Errorf("%v, %d and %v, %d, not %v", p, e, q, f, w)
		}
		blotAttrs(p)
		if !same(q, w) {
			t.Errorf("%v, not %v", q, w)
		}
	}
}

// R4: lists of pieces that All answers are apart, spare room too.
func TestListsApart(t *testing.T) {
	_, text, want := whole()
	l, _ := xmlpull.All(text)
	other, _ := xmlpull.All(text)
	l = l[:cap(l)]
	for i := range l {
		l[i] = words("blot")
	}
	for i, w := range want {
		if !same(other[i], w) {
			t.Errorf("%v, not %v", other[i], w)
		}
	}
}

// What is answered keeps no more than itself: not the text in which it stood.
func TestNamesKeepNoText(t *testing.T) {
	const texts = 500
	inUse := func() uint64 {
		runtime.GC()
		var m runtime.MemStats
		runtime.ReadMemStats(&m)
		return m.HeapAlloc
	}
	before := inUse()
	var kept []string
	for range texts {
		l, e := xmlpull.All("<a x='1'/><!--" + strings.Repeat(" ", 39000) + "-->")
		if e != api.OK {
			t.Fatal(e)
		}
		kept = append(kept, l[0].Name, l[0].Attrs[0].Name, l[0].Attrs[0].Value, l[1].Name)
	}
	if more := inUse(); more > before+texts*39000/4 {
		t.Errorf("%d bytes more", more-before)
	}
	runtime.KeepAlive(kept)
}
