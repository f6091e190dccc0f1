package text

import (
	"math"
	"slices"
	"strconv"
	"strings"
	"testing"

	"sortkernel/api"
	"sortkernel/term"
)

func v(n int) api.Term { return api.Term{Kind: api.TmVar, N: n} }

func u(n int) api.Term { return api.Term{Kind: api.TmU, N: n} }

func def(n int) api.Term { return api.Term{Kind: api.TmDef, N: n} }

func m(kind int, args ...api.Term) api.Term { return api.Term{Kind: kind, Args: args} }

var (
	nat  = m(api.TmNat)
	zero = m(api.TmZero)
	star = m(api.TmStar)
)

// under is t with so many TmSuc around it.
func under(t api.Term, many int) api.Term {
	for range many {
		t = m(api.TmSuc, t)
	}
	return t
}

// sucs is s with so many brackets of `suc` around it.
func sucs(s string, many int) string {
	return strings.Repeat("(suc ", many) + s + strings.Repeat(")", many)
}

const kindWords = "pi fn sig pair fst snd unit star empty absurd nat zero suc rec"

func TestC1Name(t *testing.T) {
	for _, s := range []string{"a", "z", "n", "abcdefgh", "zzzzzzzz", "defs", "de", "ef", "pie", "p", "natnat", "u", "recs", "x"} {
		if !Name(s) {
			t.Errorf("%q is no name", s)
		}
	}
	wrong := append(strings.Fields(kindWords), "def", "", "abcdefghi", strings.Repeat("a", 5000),
		"A", "U", "U0", "aB", "a1", "1", "a b", " a", "a ", "a\n", "(", ")", "(a)", "`", "{", "a`", "a{", "_", "é", "a\x00", "\xff", "a-b")
	for _, s := range wrong {
		if Name(s) {
			t.Errorf("%q is a name", s)
		}
	}
}

func TestC1Words(t *testing.T) {
	for _, c := range []struct {
		s    string
		want []string
	}{
		{"", nil}, {" ", nil}, {"\n \n", nil}, {"a", []string{"a"}}, {" a ", []string{"a"}},
		{"a b", []string{"a", "b"}}, {"a\nb", []string{"a", "b"}}, {"a \n  b", []string{"a", "b"}},
		{"(", []string{"("}}, {")(", []string{")", "("}}, {"((", []string{"(", "("}},
		{"a(b)c", []string{"a", "(", "b", ")", "c"}}, {"()a", []string{"(", ")", "a"}}, {"a)", []string{"a", ")"}},
		{"(fn nat n (suc n))", []string{"(", "fn", "nat", "n", "(", "suc", "n", ")", ")"}},
		{"a\tb", []string{"a\tb"}}, {"a\rb\x00", []string{"a\rb\x00"}}, {"[a]{b}", []string{"[a]{b}"}},
		{"é\xff U12+", []string{"é\xff", "U12+"}}, {"abcdefghijklmnop", []string{"abcdefghijklmnop"}},
	} {
		if got := Words(c.s); !slices.Equal(got, c.want) {
			t.Errorf("Words(%q) is %q", c.s, got)
		}
	}
	if got := Words(strings.Repeat("(a ", 1<<16)); len(got) != 1<<17 {
		t.Errorf("of a long text %d words come", len(got))
	}
}

var (
	someBound = []string{"a", "b", "a", "c"}
	someDecls = []string{"one", "b", "two", "one", "suc"}
)

// parsed: s is this term, where someBound and someDecls are there.
func parsed(t *testing.T, s string, want api.Term) {
	t.Helper()
	got, e := Parse(s, someBound, someDecls)
	if e != api.OK || !term.Same(got, want) {
		t.Errorf("Parse(%q) is %v, %d, not %v", s, got, e, want)
	}
}

func TestC1ParseWithoutArguments(t *testing.T) {
	for s, kind := range map[string]int{"unit": api.TmUnit, "star": api.TmStar, "empty": api.TmEmpty, "nat": api.TmNat, "zero": api.TmZero} {
		parsed(t, s, m(kind))
	}
	for n, s := range []string{"U0", "U1", "U2", "U3"} {
		parsed(t, s, u(n))
	}
	for s, want := range map[string]api.Term{"c": v(0), "a": v(1), "b": v(2), "two": def(2), "one": def(3)} {
		parsed(t, s, want)
	}
}

func TestC1ParseWithArguments(t *testing.T) {
	for s, want := range map[string]api.Term{
		"(pi nat n n)":                       m(api.TmPi, nat, v(0)),
		"(fn nat n (a n))":                   m(api.TmLam, nat, m(api.TmApp, v(2), v(0))),
		"(sig U0 x x)":                       m(api.TmSig, u(0), v(0)),
		"(pair nat n b c a)":                 m(api.TmPair, nat, v(3), v(0), v(1)),
		"(fst c)":                            m(api.TmFst, v(0)),
		"(snd c)":                            m(api.TmSnd, v(0)),
		"(absurd nat c)":                     m(api.TmAbsurd, nat, v(0)),
		"(suc zero)":                         m(api.TmSuc, zero),
		"(rec n nat a m k (suc k) two)":      m(api.TmRec, nat, v(1), m(api.TmSuc, v(0)), def(2)),
		"(rec n n c m k (m k) c)":            m(api.TmRec, v(0), v(0), m(api.TmApp, v(1), v(0)), v(0)),
		"(rec n c c m k (c a) c)":            m(api.TmRec, v(1), v(0), m(api.TmApp, v(2), v(3)), v(0)),
		"(rec n n c k k k c)":                m(api.TmRec, v(0), v(0), v(0), v(0)),
		"(zero star)":                        m(api.TmApp, zero, star),
		"(one two)":                          m(api.TmApp, def(3), def(2)),
		"((one two) (suc c))":                m(api.TmApp, m(api.TmApp, def(3), def(2)), m(api.TmSuc, v(0))),
		"(U0 U3)":                            m(api.TmApp, u(0), u(3)),
		"(fn nat c (fn c c c))":              m(api.TmLam, nat, m(api.TmLam, v(0), v(0))),
		"(fn nat two two)":                   m(api.TmLam, nat, v(0)),
		"((fn nat two two) two)":             m(api.TmApp, m(api.TmLam, nat, v(0)), def(2)),
		"(pair nat n n c c)":                 m(api.TmPair, nat, v(0), v(0), v(0)),
		"(pi (pi nat n n) n (fn nat m n))":   m(api.TmPi, m(api.TmPi, nat, v(0)), m(api.TmLam, nat, v(1))),
		"(fn nat abcdefgh abcdefgh)":         m(api.TmLam, nat, v(0)),
		"(rec n nat (fn nat k k) m k k c)":   m(api.TmRec, nat, m(api.TmLam, nat, v(0)), v(0), v(0)),
		" \n( fst\n\n( snd  c)\n) \n":        m(api.TmFst, m(api.TmSnd, v(0))),
		"((fn nat n(suc n))zero)":            m(api.TmApp, m(api.TmLam, nat, m(api.TmSuc, v(0))), zero),
		sucs("zero", api.MaxDeep-1):          under(zero, api.MaxDeep-1),
		"zero" + strings.Repeat(" ", 1496):   zero,
		"(c" + strings.Repeat(" ", 9) + "c)": m(api.TmApp, v(0), v(0)),
	} {
		parsed(t, s, want)
	}
}

// TestC1ParseMuch: a term may be more than is right, if its text is not.
func TestC1ParseMuch(t *testing.T) {
	s := "zero"
	for range 7 {
		s = "(" + s + " " + s + ")"
	}
	got, e := Parse(s, nil, nil)
	if e != api.OK || term.Size(got) != 255 {
		t.Errorf("a text of %d bytes: %d terms, %d", len(s), term.Size(got), e)
	}
}

// TestC1ParseBound: MaxBound may be bound, outside of the term and within it.
func TestC1ParseBound(t *testing.T) {
	names := strings.Split("abcdefghi", "")
	for many := range names {
		s, want := names[0], v(many-1)
		for _, n := range slices.Backward(names[:many]) {
			s, want = "(fn nat "+n+" "+s+")", m(api.TmLam, nat, want)
		}
		if many == 0 {
			continue
		}
		if got, e := Parse(s, nil, nil); e != api.OK || !term.Same(got, want) {
			t.Errorf("Parse(%q) is %v, %d", s, got, e)
		}
		if got, e := Parse(names[0], names[:many], nil); e != api.OK || got.N != many-1 {
			t.Errorf("of %d bound, the first one is %v, %d", many, got, e)
		}
	}
	if got, e := Parse("(fn (fn nat n n) n (fn nat m (m n)))", names[:6], nil); e != api.OK || term.Size(got) != 9 {
		t.Errorf("what is bound beside counts: %d", e)
	}
}

// refused: Parse tells this error of s, and nothing else.
func refused(t *testing.T, s string, bound, decls []string, want api.Errno) {
	t.Helper()
	if got, e := Parse(s, bound, decls); e != want || !term.Same(got, api.Term{}) {
		t.Errorf("Parse(%q, %q, %q) is %v, %d, not %d", s, bound, decls, got, e, want)
	}
}

type wrongText struct {
	s    string
	want api.Errno
}

func wrongs(t *testing.T, bound, decls []string, l []wrongText) {
	t.Helper()
	for _, c := range l {
		refused(t, c.s, bound, decls, c.want)
	}
}

func TestC2ParseWholes(t *testing.T) {
	nine := strings.Split("abcdefghi", "")
	blanks := strings.Repeat(" ", api.MaxText)
	for _, c := range []struct {
		s     string
		bound []string
		want  api.Errno
	}{
		{blanks, nil, api.ErrEnd}, {blanks + " ", nil, api.ErrMuch}, {"zero" + blanks, nil, api.ErrMuch}, {"?" + blanks, nine, api.ErrMuch},
		{"zero", nine, api.ErrMany}, {"", nine, api.ErrMany}, {"?", nine, api.ErrMany}, {blanks, nine, api.ErrMany},
		{"?", nine[:8], api.ErrName}, {"zero", append(nine, nine...), api.ErrMany},
	} {
		refused(t, c.s, c.bound, nil, c.want)
	}
	if _, e := Parse("zero", nil, slices.Repeat([]string{"d"}, 5000)); e != api.OK {
		t.Errorf("many that are declared: %d", e)
	}
}

func TestC2ParseNumbers(t *testing.T) {
	wrongs(t, nil, []string{"u"}, []wrongText{
		{"U", api.ErrForm}, {"U 0", api.ErrForm}, {"U(", api.ErrForm}, {"Ux", api.ErrForm}, {"Unat", api.ErrForm}, {"UU0", api.ErrForm},
		{"U00", api.ErrForm}, {"U01", api.ErrForm}, {"U000", api.ErrForm}, {"U04", api.ErrForm}, {"U1e0", api.ErrForm},
		{"U1x", api.ErrForm}, {"U0x1", api.ErrForm}, {"U1.0", api.ErrForm}, {"U1_0", api.ErrForm}, {"U9x", api.ErrForm}, {"U٣", api.ErrForm},
		{"U1/", api.ErrForm}, {"U1:", api.ErrForm}, {"U99999999999999999999999x", api.ErrForm}, {"U1\t", api.ErrForm}, {"U\x00", api.ErrForm},
		{"U4", api.ErrRange}, {"U9", api.ErrRange}, {"U10", api.ErrRange}, {"U30", api.ErrRange}, {"U256", api.ErrRange}, {"U4294967296", api.ErrRange},
		{"(suc U4)", api.ErrRange}, {"(U4 ?)", api.ErrRange}, {"(? U4)", api.ErrName}, {"(U-1 ?)", api.ErrRange}, {"(U+1 ?)", api.ErrForm},
		{"u0", api.ErrName}, {"0", api.ErrName}, {"-1", api.ErrName},
	})
}

// TestC2ParseSigns: the sign of a number below 0 is needed, so it is a number; any other sign is needless.
func TestC2ParseSigns(t *testing.T) {
	wrongs(t, nil, nil, []wrongText{
		{"U-1", api.ErrRange}, {"U-3", api.ErrRange}, {"U-4", api.ErrRange}, {"U-10", api.ErrRange}, {"U-4294967296", api.ErrRange},
		{"U-", api.ErrForm}, {"U+", api.ErrForm}, {"U-0", api.ErrForm}, {"U+0", api.ErrForm}, {"U+1", api.ErrForm}, {"U+4", api.ErrForm},
		{"U-01", api.ErrForm}, {"U-00", api.ErrForm}, {"U--1", api.ErrForm}, {"U+-1", api.ErrForm}, {"U-+1", api.ErrForm}, {"U1-", api.ErrForm},
		{"U-1x", api.ErrForm}, {"U- 1", api.ErrForm}, {"U\u22121", api.ErrForm},
	})
}

// TestC2ParseGreatNumbers: beyond Go's int there is no number.
func TestC2ParseGreatNumbers(t *testing.T) {
	below, above := strconv.Itoa(math.MinInt), strconv.Itoa(math.MaxInt)
	wrongs(t, nil, nil, []wrongText{
		{"U" + above, api.ErrRange}, {"U" + strconv.Itoa(math.MaxInt-1), api.ErrRange},
		{"U" + below, api.ErrRange}, {"U" + strconv.Itoa(math.MinInt+1), api.ErrRange},
		{"U" + strconv.FormatUint(math.MaxInt+1, 10), api.ErrForm}, {"U-" + strconv.FormatUint(math.MaxInt+2, 10), api.ErrForm},
		{"U" + above + "0", api.ErrForm}, {"U" + below + "0", api.ErrForm}, {"U0" + above, api.ErrForm}, {"U+" + above, api.ErrForm},
		{"U18446744073709551615", api.ErrForm}, {"U18446744073709551616", api.ErrForm}, {"U18446744073709551617", api.ErrForm},
		{"U-18446744073709551615", api.ErrForm}, {"U99999999999999999999", api.ErrForm},
		{"U" + strings.Repeat("9", 1000), api.ErrForm}, {"U-" + strings.Repeat("9", 1000), api.ErrForm},
		{"(suc U" + above + ")", api.ErrRange}, {"(suc U" + above + "0)", api.ErrForm},
	})
}

func TestC2ParseNames(t *testing.T) {
	wrongs(t, someBound, []string{"one", "zero", "abcdefghi", "X"}, []wrongText{
		{"d", api.ErrNone}, {"on", api.ErrNone}, {"ones", api.ErrNone}, {"(fn nat n m)", api.ErrNone}, {"(fn n n c)", api.ErrNone},
		{"((fn nat n n) n)", api.ErrNone}, {"(rec n nat n m k k c)", api.ErrNone}, {"(rec n nat c m k k k)", api.ErrNone},
		{"(rec n m c m k k c)", api.ErrNone}, {"(pair nat n n n c)", api.ErrNone}, {"(rec n nat c m k n c)", api.ErrNone},
		{"def", api.ErrName}, {"(def one)", api.ErrName}, {"X", api.ErrName}, {"abcdefghi", api.ErrName}, {"o1", api.ErrName}, {"?", api.ErrName},
		{"a\tb", api.ErrName}, {"\xff", api.ErrName}, {")", api.ErrName}, {"()", api.ErrName}, {"(suc)", api.ErrName}, {"(c)", api.ErrName},
		{"(fn nat zero zero)", api.ErrName}, {"(fn nat fn zero)", api.ErrName}, {"(fn nat def zero)", api.ErrName}, {"(fn nat U0 zero)", api.ErrName},
		{"(fn nat (suc c))", api.ErrName}, {"(fn nat )", api.ErrName}, {"(fn nat abcdefghi zero)", api.ErrName}, {"(fn nat N zero)", api.ErrName},
		{"(rec nat zero m k k c)", api.ErrName}, {"(rec n nat c m (suc c) c)", api.ErrName}, {"(rec n nat c m nat c c)", api.ErrName},
		{"(pair nat nat zero zero)", api.ErrName}, {"(pair nat n nat zero)", api.ErrName},
	})
}

func TestC2ParseForms(t *testing.T) {
	for _, w := range strings.Fields(kindWords) {
		kind, _ := kindOf(w)
		if many(kind) > 0 {
			wrongs(t, someBound, nil, []wrongText{
				{w, api.ErrForm}, {"(suc " + w + ")", api.ErrForm}, {"(zero " + w, api.ErrForm}, {"(" + w, api.ErrEnd}, {w + " zero", api.ErrForm},
			})
		}
	}
	wrongs(t, someBound, nil, []wrongText{
		{"zero zero", api.ErrForm}, {"zero)", api.ErrForm}, {"zero (", api.ErrForm}, {"(suc zero) ?", api.ErrForm}, {"(suc zero))", api.ErrForm},
		{"(suc zero zero)", api.ErrForm}, {"(suc zero (", api.ErrForm}, {"(c c c)", api.ErrForm}, {"(fn nat n n n)", api.ErrForm},
		{"(zero c ?)", api.ErrForm}, {"(fst c ?", api.ErrForm}, {"(nat)", api.ErrName}, {"(suc suc)", api.ErrForm},
		{"", api.ErrEnd}, {" \n", api.ErrEnd}, {"(", api.ErrEnd}, {"((", api.ErrEnd}, {"(c", api.ErrEnd}, {"(c c", api.ErrEnd}, {"(suc", api.ErrEnd},
		{"(suc zero", api.ErrEnd}, {"(fn", api.ErrEnd}, {"(fn nat", api.ErrEnd}, {"(fn nat n", api.ErrEnd}, {"(fn nat n n", api.ErrEnd},
		{"(rec", api.ErrEnd}, {"(rec n", api.ErrEnd}, {"(rec n nat c m", api.ErrEnd}, {"(rec n nat c m k", api.ErrEnd}, {"(rec n nat c m k k c", api.ErrEnd},
	})
}

func TestC2ParseDeepAndMany(t *testing.T) {
	head := func(behind string) string { return strings.Repeat("(suc ", api.MaxDeep-1) + behind }
	wrongs(t, []string{"a", "b", "c", "d", "e", "f"}, nil, []wrongText{
		{sucs("zero", api.MaxDeep), api.ErrDeep}, {strings.Repeat("(", 1000), api.ErrDeep}, {strings.Repeat("(suc ", 300), api.ErrDeep},
		{head("?"), api.ErrName}, {head(""), api.ErrEnd}, {head("U4"), api.ErrRange}, {head("zero"), api.ErrEnd},
		{head("(suc ?"), api.ErrDeep}, {head("(suc"), api.ErrDeep}, {head("("), api.ErrDeep}, {head("(suc U4"), api.ErrDeep},
		{head("(fn ? ?"), api.ErrDeep}, {head("(rec ?"), api.ErrName}, {head("(rec"), api.ErrEnd}, {head("(rec n ?"), api.ErrDeep},
		{"(zero " + sucs("zero", api.MaxDeep-1) + ")", api.ErrDeep}, {"(? " + sucs("zero", api.MaxDeep) + ")", api.ErrName},

		{"(fn nat n (fn nat m (fn nat k zero)))", api.ErrMany}, {"(fn nat n (fn nat m (fn nat k", api.ErrMany}, {"(fn nat n (fn nat m (fn nat k ?", api.ErrMany},
		{"(fn nat n (fn nat m (fn nat ? ?", api.ErrName}, {"(fn nat n (fn nat m (fn nat", api.ErrEnd}, {"(fn nat n (fn nat m (fn ? k k", api.ErrName},
		{"(fn nat n (rec m nat zero k i zero zero))", api.ErrMany}, {"(fn nat n (rec m nat zero k ?", api.ErrName}, {"(fn nat n (rec m nat zero k", api.ErrEnd},
		{"(fn nat n (fn nat m (rec k", api.ErrMany}, {"(rec m (fn nat k k) zero", api.ErrEnd}, {"(fn nat n (rec m (fn nat k (fn nat i", api.ErrMany},
	})
}

// TestC2ParseOnlyReads: the lists that are handed in stay, with their spare room.
func TestC2ParseOnlyReads(t *testing.T) {
	room := []string{"a", "b", "spare", "spare"}
	decls := []string{"one", "spare"}
	for _, s := range []string{"(fn nat n (fn nat m (a (n one))))", "(rec n nat a m k (suc k) one)", "(fn nat n ?)"} {
		Parse(s, room[:2], decls[:1])
	}
	refused(t, "spare", room[:2], decls[:1], api.ErrNone)
	if !slices.Equal(room, []string{"a", "b", "spare", "spare"}) || !slices.Equal(decls, []string{"one", "spare"}) {
		t.Errorf("%q and %q are left", room, decls)
	}
}
