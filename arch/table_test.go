package arch

import "testing"

// Section Ways of the chapter: a score's imaginary part is the place in the table, which no call tells.
func TestPlaces(t *testing.T) {
	x, _ := Parse("x86_64>i686:i586>i386")
	want := map[string]complex128{"noarch": 1, "x86_64": 2 + 1i, "i686": 3 + 2i, "i586": 3 + 3i, "i386": 4 + 4i}
	if len(x.scores) != len(want) {
		t.Errorf("scores: %v", x.scores)
	}
	for name, score := range want {
		if x.scores[name] != score {
			t.Errorf("%s: %v, not %v", name, x.scores[name], score)
		}
	}
}
