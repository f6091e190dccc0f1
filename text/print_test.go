package text

import (
	"math"
	"slices"
	"strings"
	"testing"

	"sortkernel/api"
	"sortkernel/term"
)

// printed: t is written so, where these are bound, and declared.
func printed(t *testing.T, x api.Term, bound, decls []string, want string) {
	t.Helper()
	if got := Print(x, bound, decls); got != want {
		t.Errorf("Print(%v, %q, %q) is %q, not %q", x, bound, decls, got, want)
	}
}

func TestC2PrintWithoutArguments(t *testing.T) {
	for kind, want := range map[int]string{api.TmUnit: "unit", api.TmStar: "star", api.TmEmpty: "empty", api.TmNat: "nat", api.TmZero: "zero"} {
		printed(t, m(kind), nil, nil, want)
		printed(t, api.Term{Kind: kind, Args: []api.Term{}}, someBound, someDecls, want)
	}
	for n, want := range []string{"U0", "U1", "U2", "U3"} {
		printed(t, u(n), nil, nil, want)
	}
	for n, want := range []string{"c", "a", "b", "a"} {
		printed(t, v(n), someBound, someDecls, want)
	}
	for n, want := range someDecls {
		printed(t, def(n), someBound, someDecls, want)
	}
}

func TestC2PrintWithArguments(t *testing.T) {
	for _, c := range []struct {
		t    api.Term
		want string
	}{
		{m(api.TmPi, nat, v(0)), "(pi nat xc xc)"},
		{m(api.TmLam, nat, m(api.TmApp, v(2), v(0))), "(fn nat xc (a xc))"},
		{m(api.TmSig, u(0), v(0)), "(sig U0 xc xc)"},
		{m(api.TmPair, v(0), v(0), v(0), v(1)), "(pair b xc xc b a)"},
		{m(api.TmFst, v(0)), "(fst b)"},
		{m(api.TmSnd, v(1)), "(snd a)"},
		{m(api.TmAbsurd, nat, v(0)), "(absurd nat b)"},
		{m(api.TmSuc, zero), "(suc zero)"},
		{m(api.TmRec, v(0), v(0), m(api.TmApp, v(0), m(api.TmApp, v(1), v(2))), v(0)), "(rec xc xc b xc xd (xd (xc b)) b)"},
		{m(api.TmApp, zero, star), "(zero star)"},
		{m(api.TmApp, m(api.TmApp, def(0), def(1)), m(api.TmSuc, v(0))), "((one two) (suc b))"},
		{m(api.TmApp, v(0), m(api.TmApp, v(1), def(1))), "(b (a two))"},
		{m(api.TmLam, m(api.TmPi, nat, v(0)), m(api.TmLam, v(0), m(api.TmApp, v(1), v(0)))), "(fn (pi nat xc xc) xc (fn xc xd (xc xd)))"},
		{m(api.TmPair, nat, m(api.TmSig, nat, v(1)), m(api.TmLam, nat, v(0)), v(1)), "(pair nat xc (sig nat xd xc) (fn nat xc xc) a)"},
		{under(zero, api.MaxDeep-1), sucs("zero", api.MaxDeep-1)},
	} {
		printed(t, c.t, []string{"a", "b"}, []string{"one", "two"}, c.want)
	}
}

// TestC2PrintNames: the letter is that of how many are bound ahead, and goes round behind z.
func TestC2PrintNames(t *testing.T) {
	for many, letter := range map[int]string{0: "a", 1: "b", 7: "h", 8: "i", 25: "z", 26: "a", 27: "b", 51: "z", 52: "a", 1000: "m", 1 << 16: "q"} {
		name := "x" + letter
		bound := slices.Repeat([]string{"n"}, many)
		printed(t, m(api.TmLam, nat, v(0)), bound, nil, "(fn nat "+name+" "+name+")")
	}
	bound := slices.Repeat([]string{"n"}, 25)
	bound[0] = "first"
	printed(t, m(api.TmRec, v(0), zero, m(api.TmApp, m(api.TmApp, v(0), v(1)), v(26)), v(24)), bound, nil, "(rec xz xz zero xz xa ((xa xz) first) first)")

	nested, want := v(0), "xh"
	for i := range 8 {
		nested = m(api.TmLam, nat, nested)
		want = "(fn nat x" + string("hgfedcba"[i]) + " " + want + ")"
	}
	printed(t, nested, nil, nil, want)
	printed(t, m(api.TmApp, m(api.TmLam, nat, v(0)), m(api.TmLam, nat, v(0))), nil, nil, "((fn nat xa xa) (fn nat xa xa))")
}

// TestC2PrintTakesNamesAsTheyAre: those that are handed in are written, whatever they are.
func TestC2PrintTakesNamesAsTheyAre(t *testing.T) {
	printed(t, m(api.TmApp, v(0), v(1)), []string{"", "(\n\xff"}, nil, "((\n\xff )")
	printed(t, m(api.TmLam, def(0), m(api.TmApp, v(0), v(1))), []string{"xb"}, []string{"zero"}, "(fn zero xb (xb xb))")
}

// rights are the right terms of just so many terms, where so many are bound, and two are declared.
func rights(size, bound int) []api.Term {
	var out []api.Term
	if size == 1 {
		for n := range bound {
			out = append(out, v(n))
		}
		return append(out, zero, u(3), def(0), def(1))
	}
	for _, kind := range []int{api.TmSuc, api.TmApp, api.TmLam, api.TmPair, api.TmRec} {
		binds, _ := term.Binds(kind)
		for _, args := range lists(size-1, bound, binds) {
			out = append(out, m(kind, args...))
		}
	}
	return out
}

// lists are the lists of arguments, of just so many terms in all.
func lists(size, bound int, binds []int) [][]api.Term {
	if len(binds) == 0 {
		if size == 0 {
			return [][]api.Term{nil}
		}
		return nil
	}
	var out [][]api.Term
	for first := 1; first <= size-len(binds)+1; first++ {
		rest := lists(size-first, bound, binds[1:])
		for _, a := range rights(first, bound+binds[0]) {
			for _, l := range rest {
				out = append(out, append([]api.Term{a}, l...))
			}
		}
	}
	return out
}

// TestC2WrittenAndReadAgain: what is written is read as what it was; blanks are no matter, and names are those of the binders.
func TestC2WrittenAndReadAgain(t *testing.T) {
	bound, decls := []string{"a", "b"}, []string{"one", "two"}
	loose := strings.NewReplacer(" ", "\n  ", "(", " ( ", ")", "\n)\n")
	for size := 1; size <= 5; size++ {
		for _, x := range rights(size, len(bound)) {
			s := Print(x, bound, decls)
			for _, s := range []string{s, loose.Replace(s)} {
				if got, e := Parse(s, bound, decls); e != api.OK || !term.Same(got, x) {
					t.Fatalf("%v is written %q, and read as %v, %d", x, s, got, e)
				}
			}
			if strings.Join(Words(s), " ") != strings.NewReplacer("(", "( ", ")", " )").Replace(s) {
				t.Fatalf("%q has other blanks", s)
			}
		}
	}
}

// TestExample3 is the document's third example: its names are written anew.
func TestExample3(t *testing.T) {
	bound, decls := []string{"a"}, []string{"two"}
	x, e := Parse("(rec n nat a m k (suc k) two)", bound, decls)
	if e != api.OK || term.Wrong(x, 1, 1) != api.OK {
		t.Errorf("%v, %d is no right term", x, e)
	}
	printed(t, x, bound, decls, "(rec xb nat a xb xc (suc xc) two)")
}

// TestC2PrintOnlyReads: what is handed in stays, with its spare room.
func TestC2PrintOnlyReads(t *testing.T) {
	room, decls := []string{"a", "b", "spare", "spare"}, []string{"one", "spare"}
	args := []api.Term{nat, m(api.TmApp, v(1), def(0)), star}
	printed(t, m(api.TmLam, args[:2]...), room[:2], decls[:1], "(fn nat xc (b one))")
	if !slices.Equal(room, []string{"a", "b", "spare", "spare"}) || !slices.Equal(decls, []string{"one", "spare"}) {
		t.Errorf("%q and %q are left", room, decls)
	}
	if !term.Same(m(api.TmRec, args...), m(api.TmRec, nat, m(api.TmApp, v(1), def(0)), star)) {
		t.Errorf("%v is left", args)
	}
}

// TestC2PrintMuch: more than is right, and as deep as may be given, is written too.
func TestC2PrintMuch(t *testing.T) {
	printed(t, under(zero, 1<<16-1), nil, nil, sucs("zero", 1<<16-1))
	x, want := v(0), "a"
	for range 12 {
		x, want = m(api.TmApp, x, x), "("+want+" "+want+")"
	}
	printed(t, x, []string{"a"}, nil, want)
}

// TestC2PrintEnds: of terms that are not right nothing is promised, but that the call ends.
func TestC2PrintEnds(t *testing.T) {
	for _, n := range []int{math.MinInt, -1, 0, 1, 2, 18, 19, 255, math.MaxInt} {
		for many := range 6 {
			for kind := -1; kind < 20; kind++ {
				Print(api.Term{Kind: kind, N: n, Args: slices.Repeat([]api.Term{v(n), def(n), u(n)}, many)[:many]}, []string{"a"}, nil)
			}
			Print(api.Term{Kind: n, Args: slices.Repeat([]api.Term{{}}, many)}, nil, nil)
		}
	}
}
