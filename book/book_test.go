package book

import (
	"slices"
	"strings"
	"testing"

	"sortkernel/api"
	"sortkernel/decl"
	"sortkernel/term"
)

// TestExample9: two lines, two declarations.
func TestExample9(t *testing.T) {
	got, vs := Load("(def one nat (suc zero))\n(def two nat (suc one))")
	want := []api.Decl{{Name: "one", Type: nat, Body: m(api.TmSuc, zero)}, {Name: "two", Type: nat, Body: m(api.TmSuc, def(0))}}
	if !sameDecls(got, want) || !slices.Equal(vs, ok(2)) {
		t.Errorf("%v, %v", got, vs)
	}
}

func TestI1Line(t *testing.T) {
	l := base(6)
	for i, d := range l {
		if got := Line(l[:i], d); got != lines[i] {
			t.Errorf("%q, not %q", got, lines[i])
		}
		// With more there it is the same.
		if got := Line(l, d); got != lines[i] {
			t.Errorf("%q, not %q", got, lines[i])
		}
	}
	for _, c := range []struct {
		d    api.Decl
		want string
	}{
		{api.Decl{Name: "x", Type: nat, Body: zero}, "(def x nat zero)"},
		{api.Decl{Name: "x", Type: m(api.TmU), Body: nat}, "(def x U0 nat)"},
		{api.Decl{Name: "abcdefgh", Type: m(api.TmUnit), Body: m(api.TmStar)}, "(def abcdefgh unit star)"},
		// What is right need not be taken, and may be called as others are.
		{api.Decl{Name: "one", Type: zero, Body: def(5)}, "(def one zero id)"},
		{api.Decl{Name: "x", Type: def(0), Body: m(api.TmApp, def(3), def(0))}, "(def x one (next one))"},
		{api.Decl{Name: "x", Type: m(api.TmSig, nat, m(api.TmApp, def(2), v(0))), Body: m(api.TmPair, nat, m(api.TmApp, def(2), v(0)), def(0), def(0))}, "(def x (sig nat xa (some xa)) (pair nat xa (some xa) one one))"},
		{api.Decl{Name: "x", Type: m(api.TmPi, nat, v(0)), Body: m(api.TmPi, nat, v(0))}, "(def x (pi nat xa xa) (pi nat xa xa))"},
	} {
		if got := Line(l, c.d); got != c.want {
			t.Errorf("%q, not %q", got, c.want)
		}
	}
	if got := Line(nil, api.Decl{Name: "x", Type: nat, Body: zero}); got != "(def x nat zero)" {
		t.Errorf("%q, behind none", got)
	}
}

// TestI1LineAsDeclared: what is named is called as it is in l, whatever else is bound there.
func TestI1LineAsDeclared(t *testing.T) {
	l := []api.Decl{{Name: "xa", Type: nat, Body: zero}, {Name: "b", Type: nat, Body: zero}}
	d := api.Decl{Name: "c", Type: nat, Body: m(api.TmApp, m(api.TmLam, nat, m(api.TmApp, v(0), def(0))), def(1))}
	if got := Line(l, d); got != "(def c nat ((fn nat xa (xa xa)) b))" {
		t.Errorf("%q", got)
	}
	l[0].Name, l[1].Name = "b", "y"
	if got := Line(l, d); got != "(def c nat ((fn nat xa (xa b)) y))" {
		t.Errorf("%q", got)
	}
}

func TestI1Print(t *testing.T) {
	if Print(nil) != "" || Print([]api.Decl{}) != "" {
		t.Errorf("of none: %q, %q", Print(nil), Print([]api.Decl{}))
	}
	l := base(6)
	for many := range len(l) + 1 {
		want := ""
		for _, s := range lines[:many] {
			want += s + "\n"
		}
		if got := Print(l[:many]); got != want {
			t.Errorf("%q, not %q", got, want)
		}
	}
}

func TestI1Read(t *testing.T) {
	l := base(6)
	for i, s := range lines {
		is(t, l[:i], s, l[i])
		is(t, l, s, l[i])
	}
	for _, c := range []struct {
		s    string
		want api.Decl
	}{
		{"(def x nat zero)", api.Decl{Name: "x", Type: nat, Body: zero}},
		{"(def abcdefgh U3 U0)", api.Decl{Name: "abcdefgh", Type: api.Term{Kind: api.TmU, N: 3}, Body: m(api.TmU)}},
		{"(def x one id)", api.Decl{Name: "x", Type: def(0), Body: def(5)}},
		{"(def x (nat zero) (zero nat))", api.Decl{Name: "x", Type: m(api.TmApp, nat, zero), Body: m(api.TmApp, zero, nat)}},
		{"(def x nat ((add one) one))", api.Decl{Name: "x", Type: nat, Body: m(api.TmApp, m(api.TmApp, def(1), def(0)), def(0))}},
		{"(def x ((fn nat n nat) zero) one)", api.Decl{Name: "x", Type: m(api.TmApp, m(api.TmLam, nat, nat), zero), Body: def(0)}},
		// What is bound in the type is bound no more in the body; and what is bound is called so, and not what is declared.
		{"(def x (pi nat one one) one)", api.Decl{Name: "x", Type: m(api.TmPi, nat, v(0)), Body: def(0)}},
		{"(def x (pi nat n n) (pi nat m m))", api.Decl{Name: "x", Type: m(api.TmPi, nat, v(0)), Body: m(api.TmPi, nat, v(0))}},
		// It is read, and not taken: it may be called as others are, and of another type.
		{"(def one nat zero)", api.Decl{Name: "one", Type: nat, Body: zero}},
		{"(def x star star)", api.Decl{Name: "x", Type: m(api.TmStar), Body: m(api.TmStar)}},
	} {
		is(t, l, c.s, c.want)
	}
	// Of those that are called so it is the last one; what a list has been is no matter.
	twice := []api.Decl{{Name: "a"}, {Name: "a"}, {Name: "b"}}
	is(t, twice, "(def a a b)", api.Decl{Name: "a", Type: def(1), Body: def(2)})
	is(t, twice[:1], "(def a a a)", api.Decl{Name: "a", Type: def(0), Body: def(0)})
	no(t, twice[:1], "(def a a b)", api.ErrNone)
	no(t, []api.Decl{}, "(def a a a)", api.ErrNone)
	// Of a list of any length.
	many := slices.Repeat([]api.Decl{{Name: "a"}}, 1000)
	is(t, many, "(def a a nat)", api.Decl{Name: "a", Type: def(999), Body: nat})
}

// TestI1ReadBlanks: blanks are no matter, nor line feeds.
func TestI1ReadBlanks(t *testing.T) {
	l := base(6)
	d := api.Decl{Name: "x", Type: m(api.TmPi, nat, nat), Body: m(api.TmLam, nat, m(api.TmSuc, v(0)))}
	for _, s := range []string{
		"(def x (pi nat n nat) (fn nat n (suc n)))",
		"(def x(pi nat n nat)(fn nat n(suc n)))",
		"  ( def  x ( pi nat n nat ) ( fn nat n ( suc n ) ) )  ",
		"\n(\ndef\nx\n(pi nat n nat)\n\n(fn nat n (suc n)))\n",
	} {
		is(t, l, s, d)
	}
	for i, s := range lines {
		for _, s := range []string{strings.NewReplacer(" (", "(", ") ", ")").Replace(s), strings.NewReplacer(" ", "\n \n", "(", " ( ", ")", "\n)\n").Replace(s)} {
			is(t, l, s, l[i])
		}
	}
	// Other ones are none.
	for _, s := range []string{"\t(def x nat zero)", "(def x nat zero)\r", "(def\tx nat zero)", "(def x nat zero)\x00", "(def x nat zero)\v"} {
		no(t, l, s, api.ErrForm)
	}
	no(t, l, "(def x\t nat zero)", api.ErrName)
	no(t, l, "(def x nat\t zero)", api.ErrName)
	no(t, l, "(def x nat zero\r)", api.ErrName)
}

// TestI1ReadMuch: of as many bytes as may be, and of one more, whatever they are.
func TestI1ReadMuch(t *testing.T) {
	s := "(def x nat zero)"
	for _, blank := range []string{" ", "\n"} {
		is(t, nil, s+strings.Repeat(blank, api.MaxText-len(s)), api.Decl{Name: "x", Type: nat, Body: zero})
		is(t, nil, strings.Repeat(blank, api.MaxText-len(s))+s, api.Decl{Name: "x", Type: nat, Body: zero})
		no(t, nil, s+strings.Repeat(blank, api.MaxText-len(s)+1), api.ErrMuch)
		no(t, nil, strings.Repeat(blank, api.MaxText), api.ErrForm)
		no(t, nil, strings.Repeat(blank, api.MaxText+1), api.ErrMuch)
	}
	for _, c := range []struct {
		word string
		want api.Errno
	}{{"(", api.ErrForm}, {")", api.ErrForm}, {"a", api.ErrForm}, {"\xff", api.ErrForm}} {
		no(t, nil, strings.Repeat(c.word, api.MaxText), c.want)
		no(t, nil, strings.Repeat(c.word, api.MaxText+1), api.ErrMuch)
		no(t, nil, strings.Repeat(c.word, 1<<20), api.ErrMuch)
	}
}

// TestI1ReadMuchApart: a type, and a body, may have so many bytes with blanks between their words, and no more.
func TestI1ReadMuchApart(t *testing.T) {
	// So many words without blanks: with blanks between they are that many bytes, twice, but one.
	open := func(words int) string { return strings.Repeat("(", words) }
	closed := func(words int) string { return open((words+1)/2) + strings.Repeat(")", words/2) }
	half := api.MaxText / 2
	no(t, nil, "(def x "+open(half)+")", api.ErrDeep)
	no(t, nil, "(def x "+open(half+1)+")", api.ErrMuch)
	no(t, nil, "(def x nat "+open(half)+")", api.ErrDeep)
	no(t, nil, "(def x nat "+open(half+1)+")", api.ErrMuch)
	no(t, nil, "(def x "+closed(half)+"nat)", api.ErrDeep)
	no(t, nil, "(def x "+closed(half+2)+"nat)", api.ErrMuch)
	// The type's error is told ahead of the body's.
	no(t, nil, "(def x y "+open(half+1)+")", api.ErrNone)
	no(t, nil, "(def x "+closed(half+2)+"y)", api.ErrMuch)
	// What is left behind is told ahead of it.
	no(t, nil, "(def x "+closed(half+2)+"nat nat)", api.ErrForm)
	no(t, nil, "(def x nat "+closed(half+2)+" nat)", api.ErrForm)
}

// TestI1ReadForm: words that are no declaration's.
func TestI1ReadForm(t *testing.T) {
	l := base(6)
	for _, s := range []string{
		"", " ", "\n", "(", ")", "()", "def", "(def", "( def", "def x", "(x", "( )", ")def(", "(def x", "(def x nat", "(def x nat zero", "def x nat zero)", "def x nat zero",
		"x", "nat", "(nat zero)", "(pi nat n nat)", "(x def nat zero)", "((def x nat zero)", "[def x nat zero]", "(Def x nat zero)", "(de x nat zero)", "(define x nat zero)", "(def(", "(suc zero)",
		"(def x nat zero) x", "(def x nat zero) (", "x (def x nat zero)", ") def x nat zero)", "(deff x nat zero)",
	} {
		no(t, l, s, api.ErrForm)
	}
	// Some are left behind the body.
	for _, s := range []string{
		"(def x nat zero zero)", "(def x nat zero))", "(def x nat zero ())", "(def x (nat) (zero) zero)", "(def x nat zero (def y nat zero))", "(def x nat zero) (def y nat zero)", "(def x (pi nat n nat) (fn nat n n) n)",
		"(def x ) ) ))", "(def x nat (zero)))", "(def x nat) zero)", "(def x nat suc zero)", "(def x pi nat n nat zero)", "(def x y z y)", "(def x ) zero zero)",
	} {
		no(t, l, s, api.ErrForm)
	}
}

// TestI1ReadName: what a name must be.
func TestI1ReadName(t *testing.T) {
	l := base(6)
	for _, name := range []string{"x", "one", "id", "a", "deff", "de", "eight", "abcdefgh", "natu", "u"} {
		is(t, l, "(def "+name+" nat zero)", api.Decl{Name: name, Type: nat, Body: zero})
	}
	for _, name := range []string{"def", "pi", "fn", "sig", "pair", "fst", "snd", "unit", "star", "empty", "absurd", "nat", "zero", "suc", "rec", "U0", "A", "One", "a1", "abcdefghi", "ä", "a\x00", "a_b", "(", ")", "(x)", "(x", ""} {
		no(t, l, "(def "+name+" nat zero)", api.ErrName)
	}
	// Of three words the last one is no name.
	no(t, l, "(def)", api.ErrName)
	no(t, l, "(def))", api.ErrName)
	no(t, l, "(def()", api.ErrName)
	// It is told ahead of what is behind it.
	for _, behind := range []string{"", "nat", "nat zero zero", ") zero", "(nat zero", "nope nope", "nat zero)", "U4 nat"} {
		no(t, l, "(def nat "+behind+")", api.ErrName)
		no(t, l, "(def nat "+behind+") (", api.ErrForm)
	}
}

// TestI1ReadParts: where the type ends, and what is wrong with it, or with the body.
func TestI1ReadParts(t *testing.T) {
	l := base(6)
	for _, c := range []struct {
		s    string
		want api.Errno
	}{
		// There are no words of one of them.
		{"(def x)", api.ErrEnd}, {"(def x nat)", api.ErrEnd}, {"(def x (suc zero))", api.ErrEnd}, {"(def x (nat zero)", api.ErrEnd}, {"(def x ((suc zero) zero)", api.ErrEnd}, {"(def x nat (suc zero)", api.ErrEnd},
		// A bracket too many is one by itself, and the type, or the body, ends there.
		{"(def x ) zero)", api.ErrName}, {"(def x ))", api.ErrName}, {"(def x nat ))", api.ErrName}, {"(def x ) ))", api.ErrName}, {"(def x ) nope)", api.ErrName}, {"(def x nope ))", api.ErrNone},
		// Of both the type's error is told.
		{"(def x U4 nope)", api.ErrRange}, {"(def x nope U4)", api.ErrNone}, {"(def x suc nope)", api.ErrForm}, {"(def x (suc) U4)", api.ErrName}, {"(def x U4 (suc))", api.ErrRange}, {"(def x U4)", api.ErrRange}, {"(def x nope)", api.ErrNone}, {"(def x suc (nat", api.ErrForm},
		// Likewise the body's.
		{"(def x nat U4)", api.ErrRange}, {"(def x nat nope)", api.ErrNone}, {"(def x nat suc)", api.ErrForm}, {"(def x nat (suc))", api.ErrName}, {"(def x nat ())", api.ErrName}, {"(def x nat (suc zero zero))", api.ErrForm}, {"(def x nat Zero)", api.ErrName}, {"(def x nat def)", api.ErrName}, {"(def x nat U)", api.ErrForm},
		{"(def x () nat)", api.ErrName}, {"(def x (suc zero zero) nat)", api.ErrForm}, {"(def x def nat)", api.ErrName},
		// It is not there itself, nor is what is bound in its type, nor what is not declared.
		{"(def x nat x)", api.ErrNone}, {"(def x x nat)", api.ErrNone}, {"(def x (pi nat n nat) n)", api.ErrNone}, {"(def x (pi nat n nat) (fn nat m n))", api.ErrNone}, {"(def x two two)", api.ErrNone},
	} {
		no(t, l, c.s, c.want)
	}
	// Those of l are there, and none else.
	for many := range len(l) + 1 {
		for n, d := range l {
			if s := "(def x nat " + d.Name + ")"; n < many {
				is(t, l[:many], s, api.Decl{Name: "x", Type: nat, Body: def(n)})
			} else {
				no(t, l[:many], s, api.ErrNone)
			}
		}
	}
}

// TestI1ReadDeep: of as many within one another as may be, and of one more; likewise of names that are bound.
func TestI1ReadDeep(t *testing.T) {
	text := func(many int) string { return strings.Repeat("(suc ", many) + "zero" + strings.Repeat(")", many) }
	x := under(zero, api.MaxDeep-1)
	is(t, nil, "(def x nat "+text(api.MaxDeep-1)+")", api.Decl{Name: "x", Type: nat, Body: x})
	is(t, nil, "(def x "+text(api.MaxDeep-1)+" "+text(api.MaxDeep-1)+")", api.Decl{Name: "x", Type: x, Body: x})
	no(t, nil, "(def x nat "+text(api.MaxDeep)+")", api.ErrDeep)
	no(t, nil, "(def x "+text(api.MaxDeep)+" nat)", api.ErrDeep)
	fun := func(many int) string {
		return strings.Repeat("(fn nat n ", many) + "n" + strings.Repeat(")", many)
	}
	bound := v(0)
	for range api.MaxBound {
		bound = m(api.TmLam, nat, bound)
	}
	is(t, nil, "(def x "+fun(api.MaxBound)+" "+fun(api.MaxBound)+")", api.Decl{Name: "x", Type: bound, Body: bound})
	no(t, nil, "(def x "+fun(api.MaxBound+1)+" nat)", api.ErrMany)
	no(t, nil, "(def x nat "+fun(api.MaxBound+1)+")", api.ErrMany)
	// Of more terms than are taken it is read.
	large := strings.Repeat("(pair nat n nat ", 20) + "n" + strings.Repeat(" n)", 20)
	if d, e := Read([]api.Decl{{Name: "n"}}, "(def x "+large+" zero)"); e != api.OK || term.Size(d.Type) <= api.MaxSize {
		t.Errorf("%d: %v", e, d)
	}
}

func TestI1Load(t *testing.T) {
	all := strings.Join(lines, "\n")
	for _, s := range []string{all, all + "\n", "\n" + all, "\n\n\n" + strings.Join(lines, "\n\n\n") + "\n\n"} {
		got, vs := Load(s)
		if !sameDecls(got, base(6)) || !slices.Equal(vs, ok(6)) {
			t.Errorf("%q: %v, %v", s, got, vs)
		}
	}
	for _, s := range []string{"", "\n", "\n\n\n\n"} {
		loaded(t, s, "")
	}
	one, form := lines[0], api.Verdict{Err: api.ErrForm}
	taken, range2, type2 := api.Verdict{Err: api.ErrName}, api.Verdict{Err: api.ErrRange, Part: 2}, api.Verdict{Err: api.ErrType, Part: 2}
	// Just those without a byte are empty; and a line ends at its line feed.
	loaded(t, " ", "", form)
	loaded(t, " \n  \n"+one+"\n \n", "one", form, form, api.Verdict{}, form)
	loaded(t, one+"\r\n"+one, "one", form, api.Verdict{})
	loaded(t, "\r\n", "", form)
	loaded(t, "(def x nat\nzero)", "", form, form)
	loaded(t, "(def x nat zero) (def y nat zero)", "", form)
	loaded(t, one+" \n  (def two nat(suc one))", "one two", ok(2)...)
	// What Read tells has part 0, and what Add tells its own.
	loaded(t, one+"\n"+one, "one", api.Verdict{}, taken)
	loaded(t, "(def nat nat zero)", "", taken)
	loaded(t, "(def x nope zero)", "", api.Verdict{Err: api.ErrNone})
	loaded(t, "(def x nat nope)", "", api.Verdict{Err: api.ErrNone})
	loaded(t, "(def x nat)", "", api.Verdict{Err: api.ErrEnd})
	loaded(t, "(def x U4 zero)\n(def x nat U4)", "", api.Verdict{Err: api.ErrRange}, api.Verdict{Err: api.ErrRange})
	loaded(t, "(def x U3 zero)\n(def x nat U3)", "", api.Verdict{Err: api.ErrRange, Part: 1}, range2)
	loaded(t, "(def x zero zero)\n(def x nat star)", "", api.Verdict{Err: api.ErrSort, Part: 1}, type2)
	loaded(t, "(def x nat (zero zero))\n(def x (fst zero) zero)", "", api.Verdict{Err: api.ErrFun, Part: 2}, api.Verdict{Err: api.ErrPair, Part: 1})
	loaded(t, strings.Repeat("(", api.MaxText+1)+"\n"+one+strings.Repeat(" ", api.MaxText+1-len(one)), "", api.Verdict{Err: api.ErrMuch}, api.Verdict{Err: api.ErrMuch})
	loaded(t, "(def x nat "+strings.Repeat("(suc ", api.MaxDeep)+"zero"+strings.Repeat(")", api.MaxDeep)+")", "", api.Verdict{Err: api.ErrDeep})
	large := strings.Repeat("(pair nat n nat ", 20) + "zero" + strings.Repeat(" zero)", 20)
	loaded(t, "(def x "+large+" zero)\n(def x nat "+large+")", "", api.Verdict{Err: api.ErrMuch, Part: 1}, api.Verdict{Err: api.ErrMuch, Part: 2})
	// What is refused is not there, whatever comes behind; and what was taken stays.
	loaded(t, "(def a nat star)\n(def b nat a)\n(def a nat zero)\n(def b nat a)\n(def c nat nope)\n(def d nat b)", "a b d", type2, api.Verdict{Err: api.ErrNone}, api.Verdict{}, api.Verdict{}, api.Verdict{Err: api.ErrNone}, api.Verdict{})
	loaded(t, "(def b nat a)\n(def a nat zero)", "a", api.Verdict{Err: api.ErrNone}, api.Verdict{})
}

// TestI1LoadMany: as many as may be, and more: these are refused, but for those that are not read.
func TestI1LoadMany(t *testing.T) {
	l := numbered(api.MaxDecls + 2)
	names := strings.Join(strings.Split("abcdefghijklmnopqrstuvwxyz"[:api.MaxDecls], ""), " ")
	many := api.Verdict{Err: api.ErrMany}
	loaded(t, strings.Join(l, "\n"), names, append(ok(api.MaxDecls), many, many)...)
	loaded(t, strings.Join(append(l, "(def z nat)", "(def z nat star)", "(def a nat zero)", ""), "\n"), names, append(ok(api.MaxDecls), many, many, api.Verdict{Err: api.ErrEnd}, many, api.Verdict{Err: api.ErrName})...)
	// A text may have any number of lines, and of bytes.
	s := strings.Repeat("(def a nat zero)\n(def b nat a)\n\n(\n", 5000)
	got, vs := Load(s)
	if strings.Join(decl.Names(got), " ") != "a b" || len(vs) != 15000 || !slices.Equal(vs[:3], []api.Verdict{{}, {}, {Err: api.ErrForm}}) {
		t.Fatalf("%q, and %d", decl.Names(got), len(vs))
	}
	for i, v := range vs[3:] {
		if want := []api.Errno{api.ErrName, api.ErrName, api.ErrForm}[i%3]; v != (api.Verdict{Err: want}) {
			t.Fatalf("%d: %v", i, v)
		}
	}
}
