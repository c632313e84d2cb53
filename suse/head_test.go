package suse_test

import (
	"strings"
	"testing"

	"chandler/api"
)

// P13.1: the four words of =Pkg:, with blanks at each place.
func TestFourWords(t *testing.T) {
	p := api.Package{Name: "bb", Evr: "2:1-3.4", Arch: "i686"}
	for _, one := range []string{" ", "  ", strings.Repeat(" ", 500)} {
		for place := range 5 {
			blanks := []string{"", " ", " ", " ", ""}
			blanks[place] = one
			text := "=Pkg:" + blanks[0] + "bb" + blanks[1] + "2:1" + blanks[2] + "3.4" + blanks[3] + "i686" + blanks[4]
			reads(t, text, p)
			reads(t, text+"\n", p)
			reads(t, text+"\n"+text+"\n=Vnd: \n"+text, p, p, p)
		}
	}
	reads(t, "=Pkg:   bb  2:1   3.4 i686  ", p)
}

// P13.1: fewer words than four, or more.
func TestOtherWords(t *testing.T) {
	for _, said := range []string{"", " ", "    ", "a", "a 1", "a 1 2", " a 1 2 ", "a  1 2", "a 1 - ", "a\t1\t2\tnoarch", "a 1\t2 noarch", "a 1 2 noarch x", "a 1 2 noarch # x", "a 1 2 no arch", "a 1 2 noarch -", "a a a a a a a a", "a 1 2,noarch"} {
		for _, blank := range []string{"", " ", "  "} {
			refuses(t, "=Pkg:"+blank+said, api.ErrSuseForm)
			refuses(t, "=Pkg:"+blank+said+"\n"+must, api.ErrSuseForm)
			refuses(t, must+"=Pkg:"+blank+said, api.ErrSuseForm)
			refuses(t, lines("=Vnd: x", "=Pkg:"+blank+said, "=Vnd: \x7f"), api.ErrSuseForm)
		}
	}
}

// P13.1: words are parted by blanks alone: what else looks like space is of a word, which may not be then.
func TestWordBytes(t *testing.T) {
	for _, c := range append(otherSpace(), "\t") {
		for text, err := range map[string]api.Errno{
			"a% 1 2 noarch": api.ErrPoolName, "a% 1 - noarch": api.ErrPoolName, "%a 1 2 noarch": api.ErrPoolName, "% 1 2 noarch": api.ErrPoolName,
			"a 1% 2 noarch": api.ErrPoolEvr, "a 1 %2 noarch": api.ErrPoolEvr, "a 1 2% noarch": api.ErrPoolEvr, "a 1 -% noarch": api.ErrPoolEvr,
			"a 1 2 %noarch": api.ErrPoolArch, "a 1 2 noarch%": api.ErrPoolArch, "a 1 2 %": api.ErrPoolArch,
			"a 1 2 noarch %": api.ErrSuseForm, "a 1 2%noarch": api.ErrSuseForm,
		} {
			refuses(t, "=Pkg: "+strings.ReplaceAll(text, "%", c), err)
			refuses(t, "=Pkg:"+strings.ReplaceAll(text, "%", c)+"\n"+must, err)
		}
	}
}

// P13.1: a release, and `-` ahead of it, are put behind the version, unless it is `-`.
func TestReleases(t *testing.T) {
	for said, evr := range map[string]string{
		"1 2": "1-2", "1 -": "1", "1-2 -": "1-2", "1-2 3": "1-2-3", "1 2-3": "1-2-3", "3:1 2": "3:1-2", "3:1 -": "3:1", "3:1-2 -": "3:1-2", "a b": "a-b", "- 1": "--1", "-- 1": "---1", "1 --1": "1---1", "1 0": "1-0",
		"1- 2": "1--2", "1 -2": "1--2", "0:- ~": "0:--~", "1.2~a 3^b+c_d": "1.2~a-3^b+c_d",
		strings.Repeat("1", 60) + " -": strings.Repeat("1", 60), strings.Repeat("1", 30) + " " + strings.Repeat("2", 29): strings.Repeat("1", 30) + "-" + strings.Repeat("2", 29),
	} {
		reads(t, "=Pkg: a "+said+" noarch", pack("a", evr))
		writes(t, pack("a", evr))
	}
	for _, said := range []string{"1 --", "1 2-", "- -", "-1 -", "1- -", "1: 2", ":1 2", "a:1 2", "1:2 3:4", "1 2:3", "1:2:3 4", "1) 2", "1 (", "ä 1", "1 =", strings.Repeat("1", 61) + " -", strings.Repeat("1", 30) + " " + strings.Repeat("2", 30)} {
		refuses(t, "=Pkg: a "+said+" noarch", api.ErrPoolEvr)
		refuses(t, "=Pkg: a "+said+" noarch\n"+must, api.ErrPoolEvr)
		refuses(t, "=Pkg: a "+said+" noarch\nx", api.ErrSuseForm)
	}
}

// P13.1: names and architectures, those that may be and those that may not.
func TestNamesAndArches(t *testing.T) {
	for _, name := range []string{"a", "#", "=Pkg:", "+Pkg:", "-Pkg:", "-", ":a", "a(x)", "a,b|c", "1", strings.Repeat("a", 60)} {
		reads(t, "=Pkg: "+name+" 1 - noarch", pack(name, "1"))
		reads(t, "=Pkg:"+name+" 1 - noarch", pack(name, "1"))
	}
	for _, name := range []string{"(", "and", "a)", "<=", "ä", strings.Repeat("a", 61)} {
		refuses(t, "=Pkg: "+name+" - - A", api.ErrPoolName)
		refuses(t, "=Pkg: "+name+" 1 - noarch\n=Vnd: \x7f", api.ErrPoolName)
	}
	for _, arch := range []string{"noarch", "x86_64", "src", "_", "0", strings.Repeat("a", 20)} {
		reads(t, "=Pkg: a 1 - "+arch, api.Package{Name: "a", Evr: "1", Arch: arch})
	}
	for _, arch := range []string{"A", "-", "any-i386", "noarch.", "ä", strings.Repeat("a", 21)} {
		refuses(t, "=Pkg: a 1 - "+arch+"\n=Vnd: \x7f", api.ErrPoolArch)
		refuses(t, "=Pkg: a - - "+arch, api.ErrPoolEvr)
	}
}
