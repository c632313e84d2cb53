package suse_test

import (
	"strings"
	"testing"

	"chandler/api"
	"chandler/suse"
)

// fault is something wrong, and its error.
type fault struct {
	text string
	err  api.Errno
}

// lineFaults are lines that are wrong within a package as soon as they are there.
func lineFaults() []fault {
	var out []fault
	for _, text := range []string{"x\n", " x\n", "=x\n", "=: x\n", "=x y: z\n", "-Req:\n", "+Req: x\n-Req:\n", "+Req:\n(\n-Req:\n", "=Req: (\n", "=Prv:\n", "=Sup: b c\n", "\r\n"} {
		out = append(out, fault{text, api.ErrSuseForm})
	}
	return out
}

// wholeFaults are packages that are wrong when they are whole.
func wholeFaults() []fault {
	return []fault{
		{"=Pkg: ( 1 - noarch\n", api.ErrPoolName},
		{"=Pkg: ( - - A\n=Vnd: \x7f\n=Fls: x\n", api.ErrPoolName},
		{"=Pkg: a 1 2- noarch\n", api.ErrPoolEvr},
		{"=Pkg: a - - A\n=Prv: b > 1\n", api.ErrPoolEvr},
		{"=Pkg: a 1 - A\n", api.ErrPoolArch},
		{"=Pkg: a 1 - A\n=Vnd: \x7f\n=Fls: x\n", api.ErrPoolArch},
		{lines("=Vnd: \x7f"), api.ErrPoolVendor},
		{lines("=Vnd: \x7f", "=Prv: b > 1", "=Fls: x"), api.ErrPoolVendor},
		{lines("=Prv: b > 1"), api.ErrPoolDeps},
		{lines("=Fls: x", "+Obs:", "(b or c)", "-Obs:"), api.ErrPoolDeps},
		{lines("=Fls:"), api.ErrPoolFiles},
		{lines("+Fls:", "/x", "x", "-Fls:"), api.ErrPoolFiles},
	}
}

// P13.1: of several things that are wrong the first one is told, line by line, and a package's own when it is whole.
func TestFirst(t *testing.T) {
	for _, f := range wholeFaults() {
		for _, ahead := range []string{"", "=Ver: 2\n# x\n", must, lines("=Req: b", "") + must} {
			refuses(t, ahead+f.text, f.err)
			refuses(t, ahead+f.text+"# x\n \n"+must, f.err)
			refuses(t, ahead+f.text+"+Pkg:\nx\n-Pkg:\n=Oth:\n=Ver:\n", f.err)
			for _, g := range wholeFaults() {
				refuses(t, ahead+f.text+g.text, f.err)
			}
			for _, g := range lineFaults() {
				// In the same package the line is told ahead of what is wrong when it is whole; in a later one it is behind that.
				refuses(t, ahead+f.text+g.text, g.err)
				refuses(t, ahead+f.text+"#\n"+g.text+must, g.err)
				refuses(t, ahead+f.text+must+g.text, f.err)
				refuses(t, ahead+must+g.text+f.text, g.err)
				refuses(t, ahead+f.text+"=Pkg: a 1 -\n"+g.text, f.err)
			}
			// A package is whole ahead of what the next =Pkg: says, if that is a line of a tag.
			for _, next := range []string{"=Pkg:", "=Pkg: x", "=Pkg: a 1 2 noarch x", "=Pkg: ( - - A", "=Pkg: x\nx"} {
				refuses(t, ahead+f.text+next, f.err)
				refuses(t, ahead+f.text+"\n"+next+"\n"+must, f.err)
			}
			for _, next := range []string{"=Pkg", "=Pk g: x", " =Pkg: a 1 - noarch", "+Pkg: a 1 - noarch", "+Pkg:", "-Pkg:", "Pkg: x"} {
				refuses(t, ahead+f.text+next, api.ErrSuseForm)
				refuses(t, ahead+f.text+next+"\n"+must, api.ErrSuseForm)
			}
		}
	}
	refuses(t, "=Pkg: (\n=Pkg: ( 1 - a", api.ErrSuseForm)
	refuses(t, "=Pkg: ( 1 - a\n=Pkg: (", api.ErrPoolName)
	refuses(t, "=Pkg: ( 1 - a\n=Req: (\n=Pkg: (", api.ErrSuseForm)
}

// P13.1: pool.Check's error, ErrSuseMany, ErrSuseForm, in this order, at the =Pkg: that is one too many.
func TestFirstOfMany(t *testing.T) {
	all := strings.Repeat(must, 199)
	for _, f := range wholeFaults() {
		refuses(t, all+f.text, f.err)
		refuses(t, all+f.text+must, f.err)
		refuses(t, all+f.text+"=Pkg: x", f.err)
		refuses(t, all+must+f.text, api.ErrSuseMany)
		refuses(t, all+"=Pkg: x\n"+f.text, api.ErrSuseForm)
		refuses(t, f.text+all+must, f.err)
	}
	refuses(t, all+must+"=Pkg: x", api.ErrSuseMany)
	refuses(t, all+must+must+"x", api.ErrSuseMany)
	refuses(t, all+must+"x\n"+must, api.ErrSuseForm)
}

// P13.1: which of pool.Check's errors is told of a package.
func TestChecks(t *testing.T) {
	steps := []struct {
		wrong, mended string
		err           api.Errno
	}{
		{"(", "a", api.ErrPoolName},
		{"-", "1", api.ErrPoolEvr},
		{"A", "noarch", api.ErrPoolArch},
		{"=Vnd: \x7f\n", "=Vnd: x\n", api.ErrPoolVendor},
		{"=Obs: (b or c)\n", "=Obs: b\n", api.ErrPoolDeps},
		{"=Fls: x\n", "=Fls: /x\n", api.ErrPoolFiles},
	}
	for n := range steps {
		var said []string
		for i, s := range steps {
			if i < n {
				said = append(said, s.mended)
			} else {
				said = append(said, s.wrong)
			}
		}
		refuses(t, "=Pkg: "+said[0]+" "+said[1]+" - "+said[2]+"\n"+said[5]+said[4]+said[3], steps[n].err)
	}
}

// P13.1: MaxText at its edge, of what is read; what is longer is not looked at.
func TestMaxText(t *testing.T) {
	for _, n := range []int{api.MaxText - 1, api.MaxText, api.MaxText + 1, 10 * api.MaxText} {
		for _, around := range [][3]string{
			{must + "=Oth: ", "x", ""}, {must + "#", "x", ""}, {must, " ", ""}, {must, "\n", ""}, {"#", "x", "\n" + must}, {"=Pkg:", " ", "a 1 - noarch"}, {must + "+Oth:\n", "x", "\n-Oth:"}, {"=Ver:", "x", "\n" + must},
			{must + "+Req:\n", "\n", "-Req:"}, {must + "+Req:", " ", "\n-Req:\n"},
		} {
			text := around[0] + strings.Repeat(around[1], n-len(around[0])-len(around[2])) + around[2]
			if n <= api.MaxText {
				reads(t, text, pack("a", "1"))
			} else {
				refuses(t, text, api.ErrSuseLong)
			}
		}
		for _, f := range append(wholeFaults(), fault{"x\n", api.ErrSuseForm}, fault{strings.Repeat(must, 201), api.ErrSuseMany}) {
			text := f.text + strings.Repeat(" ", n-len(f.text))
			if n <= api.MaxText {
				refuses(t, text, f.err)
			} else {
				refuses(t, text, api.ErrSuseLong)
			}
		}
	}
	refuses(t, strings.Repeat("\n", api.MaxText+1), api.ErrSuseLong)
	reads(t, strings.Repeat("\n", api.MaxText))
}

// R1: texts that repeat whatever they can.
func TestEnds(t *testing.T) {
	for _, s := range []string{
		"\n", " ", "\t", "#", "#\n", "=", "+", "-", ":", "x\n", "(", ")", "(b or ", "\xff", "\x00", "=x:\n", "=Vnd: x\n", "=Vnd: \x7f\n", "=Fls: /x\n", "=Req: b\n", "=Req: (\n",
		"+Req:\n", "-Req:\n", "+Req:\n-Req:\n", "+Req:\nb\n-Req:\n", "b\n", "/x\n", "+x:\n", "=Ver:\n", "=Pkg:\n", must, "=Pkg: a 1 - a\n=Pkg: (\n", "+Pkg:\n-Pkg:\n",
	} {
		for _, ahead := range []string{"", must, must + "+Req:\n", must + "+Fls:\n", must + "+Vnd:\n", must + "+" + strings.Repeat("x", 15000) + ":\n", must + "=Req: ", must + "=", must + "+", "=Pkg: ", "=Pkg: a 1 - noarch "} {
			text := ahead + strings.Repeat(s, (api.MaxText-len(ahead))/len(s))
			l, e := oracle(text)
			tells(t, text, l, e)
			rewrites(t, text)
			if _, e := suse.Parse(text + s + text); e != api.ErrSuseLong {
				t.Errorf("%q: %d", short(text), e)
			}
		}
	}
}
