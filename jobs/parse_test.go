package jobs_test

import (
	"strings"
	"testing"

	"chandler/api"
	"chandler/jobs"
)

// like are words that are nearly a word, but none.
func like(word string) []string {
	out := []string{
		"", word + word, strings.ToUpper(word), strings.ToUpper(word[:1]) + word[1:], word[:len(word)-1] + strings.ToUpper(word[len(word)-1:]),
		"-" + word, word + "=", word + "s", "x" + word, word + ":", "\"" + word + "\"", word + "\t", "\t" + word, word + "\n", word + "\x00", "\x00" + word, "\xef\xbb\xbf" + word,
	}
	for n := range len(word) {
		out = append(out, word[:n], word[n+1:], word[:n]+word[n+1:], word[:n]+" "+word[n:], word[:n]+string(word[n]+1)+word[n+1:])
	}
	return out
}

// P14.2: words of kinds and of hows: large letters, words cut short or longer, and others are none.
func TestWords(t *testing.T) {
	for _, word := range kindWords()[1:] {
		for _, other := range like(word) {
			for _, behind := range []string{" name a", " glob a*", " dep a", " dep (a with b)", " exact a-1.noarch", " all"} {
				refuses(t, other+behind)
			}
		}
	}
	for _, word := range howWords()[1:] {
		for _, other := range like(word) {
			for _, behind := range []string{"", " a", " (a with b)", " "} {
				refuses(t, "install "+other+behind)
			}
		}
	}
}

// P14.2: words of the other table, and others, are none.
func TestOtherWords(t *testing.T) {
	words := append(append(kindWords(), howWords()...), "remove", "upgrade", "keep", "a", "0", "1", "2", "JInstall", "SName", "installs", "distupgrade", "noname", "*", "?")
	for _, kind := range words {
		for _, how := range words {
			for _, text := range []string{"", " a"} {
				line := kind + " " + how + text
				isKind, isHow := false, false
				for _, w := range kindWords()[1:] {
					isKind = isKind || w == kind
				}
				for _, w := range howWords()[1:] {
					isHow = isHow || w == how && (how == "all") == (text == "")
				}
				if _, e := jobs.Parse(line); (e == api.OK) != (isKind && isHow) {
					t.Errorf("Parse %q: %d", line, e)
				}
				if !isKind || !isHow {
					refuses(t, line)
				}
			}
		}
	}
}

// P14.2: blanks: just one between words, none at the ends; no other byte parts words.
func TestBlanks(t *testing.T) {
	for _, kind := range kindWords()[1:] {
		for _, how := range howWords()[1:] {
			text := " a"
			if how == "all" {
				text = ""
			}
			for _, line := range []string{
				" " + kind + " " + how + text, "  " + kind + " " + how + text, kind + "  " + how + text, kind + "   " + how + text, kind + how + text,
				kind + "\t" + how + text, kind + " \t" + how + text, "\t" + kind + " " + how + text, kind + "\n" + how + text, kind + "\x00" + how + text, kind + "\u00a0" + how + text,
				kind + " " + how + "\ta", kind + " " + how + "\na", kind + " " + how + "\u00a0a", kind + " " + how + "\x00a",
				kind + " " + how + text + "\n", kind + " " + how + text + "\r", kind + " " + how + text + "\t", kind + " " + how + text + "\x00",
			} {
				refuses(t, line)
			}
			if how != "dep" {
				for _, line := range []string{kind + " " + how + text + " ", kind + " " + how + text + "  ", kind + " " + how + " " + text, kind + " " + how + text + " a", kind + " " + how + text + "  a", kind + " " + how + "  "} {
					refuses(t, line)
				}
			}
		}
	}
}

// P14.2: a Text where one is asked, and none where none is.
func TestTextThere(t *testing.T) {
	for _, kind := range kindWords()[1:] {
		for _, how := range []string{"name", "glob", "dep", "exact"} {
			for _, behind := range []string{"", " ", "  ", "   "} {
				refuses(t, kind+" "+how+behind)
			}
		}
		for _, behind := range []string{" ", "  ", " a", " *", " all", " \x00", "\x00", " a b", "*"} {
			refuses(t, kind+" all"+behind)
		}
		for _, line := range []string{kind, kind + " ", " " + kind, kind + "  ", kind + " a", kind + " " + kind, kind + " lib >= 1", kind + " *"} {
			refuses(t, line)
		}
	}
	for _, line := range []string{"", " ", "  ", "   ", "\n", "\x00", "all", "name a", " all", " name a", "  a", "a", "a b", "a b c", "#", "install", "erase", strings.Repeat(" ", 100000), strings.Repeat("install ", 100000), "install name " + strings.Repeat("a", 1000000), strings.Repeat("x", 1000000)} {
		refuses(t, line)
	}
}

// P14.2: words that tell something are Texts as any others.
func TestWordsAsTexts(t *testing.T) {
	for _, text := range append(kindWords()[1:], howWords()[1:]...) {
		for n, how := range howWords() {
			if n != 0 && n != api.SAll {
				reads(t, "multi "+how+" "+text, api.Job{Kind: api.JMulti, How: n, Text: text})
			}
		}
	}
}

// P14.2: each byte of the words counts, and each blank ahead of them.
func TestEachByte(t *testing.T) {
	for _, line := range []string{"install name ab", "erase glob a?*", "update exact a-1-1.noarch", "dup all", "lock dep lib >= 1", "multi dep (a with lib)", "favor all"} {
		j, e := jobs.Parse(line)
		again, f := jobs.Print(j)
		if e != api.OK || f != api.OK || again != line {
			t.Errorf("%q: %s, %d, %d", line, shown(j), e, f)
		}
		behind := strings.IndexByte(line, ' ')
		behind += 1 + strings.IndexByte(line[behind+1:]+" ", ' ')
		for n := range min(behind+1, len(line)) {
			refuses(t, line[:n]+line[n+1:])
			refuses(t, line[:n]+"\x7f"+line[n+1:])
			for _, c := range []string{"\t", "\x00", "\xff", "-"} {
				refuses(t, line[:n]+c+line[n:])
			}
			if n < behind { // there SDep may have more
				refuses(t, line[:n]+" "+line[n:])
			}
		}
	}
}
