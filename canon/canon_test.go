package canon

import (
	"math"
	"strconv"
	"testing"

	"sortkernel/api"
	"sortkernel/eval"
	"sortkernel/infer"
	"sortkernel/term"
)

// TestExample11: a pair of 0 and 1.
func TestExample11(t *testing.T) {
	x, typ := of(t, nil, "(pair nat n nat zero (suc zero))", "(sig nat n nat)")
	if got := Show(nil, x, typ); got != "(0, 1)" {
		t.Errorf("%q", got)
	}
}

func TestK1Numeral(t *testing.T) {
	for n, want := range []api.Term{zero, m(api.TmSuc, zero), m(api.TmSuc, m(api.TmSuc, zero)), m(api.TmSuc, m(api.TmSuc, m(api.TmSuc, zero)))} {
		if got := Numeral(n); !term.Same(got, want) {
			t.Errorf("%d: %v comes", n, got)
		}
	}
	for n := range 500 {
		x := Numeral(n)
		if !term.Same(x, sucs(zero, n)) || term.Size(x) != n+1 || !eval.Is(nil, x, 0) {
			t.Errorf("%d: %v comes", n, x)
		}
		if e := infer.Check(nil, nil, x, nat); e != api.OK {
			t.Errorf("%d is no number: %d", n, e)
		}
	}
	// The largest one that is right.
	if term.Wrong(Numeral(api.MaxDeep-1), 0, 0) != api.OK || term.Wrong(Numeral(api.MaxDeep), 0, 0) != api.ErrDeep {
		t.Error("one is not right")
	}
}

// TestK1NumeralBelow: below 0 nothing is promised, but that there is an end.
func TestK1NumeralBelow(t *testing.T) {
	for _, n := range []int{-1, -2, math.MinInt} {
		if got := Numeral(n); !term.Same(got, zero) {
			t.Errorf("%d: %v comes", n, got)
		}
	}
}

// TestK1NumeralIsNew: no list of an answer is one of another answer, or is there twice.
func TestK1NumeralIsNew(t *testing.T) {
	many := map[*api.Term]int{}
	for _, n := range []int{7, 7, 6, 1} {
		x := Numeral(n)
		lists(x, many)
		_ = append(x.Args, star)
	}
	if len(many) != 21 {
		t.Errorf("%d lists", len(many))
	}
	spoil(Numeral(7))
	if !term.Same(Numeral(7), sucs(zero, 7)) {
		t.Error("an answer changes another one")
	}
}

func TestK1Number(t *testing.T) {
	l := taken(t, lines)
	for s, want := range map[string]int{
		"zero":                        0,
		"(suc zero)":                  1,
		"(suc (suc zero))":            2,
		"one":                         1,
		"two":                         2,
		"(suc (suc two))":             4,
		"((add two) (suc one))":       4,
		"((add zero) zero)":           0,
		"(suc ((add (suc two)) two))": 6,
		"(power zero)":                1,
		"(power (suc (suc two)))":     16,
		"(tower (suc (suc two)))":     16,
		"((fn nat n n) two)":          2,
		"((fn nat n two) zero)":       2,
		"(((fn nat n (fn nat m n)) (suc two)) two)": 3,
		"(((fn nat n (fn nat m m)) (suc two)) two)": 2,
		"(fst this)":                                     2,
		"(snd this)":                                     1,
		"(snd (pair unit n nat star two))":               2,
		"(rec n nat two m k (suc k) two)":                4,
		"(rec n nat zero m k m (suc (suc two)))":         3,
		"(rec n nat two m k zero zero)":                  2,
		"(rec n nat two m k zero one)":                   0,
		"((id nat) two)":                                 2,
		"(((id (pi nat n nat)) (fn nat n (suc n))) two)": 3,
		"((rec n (fun one) (fn nat n (suc n)) m k (fn nat n (k (k n))) two) zero)":    4,
		"(rec n (rec k U0 nat j i nat n) zero m k one two)":                           1,
		"((fn nat n (rec k nat n j i ((add i) i) n)) (suc two))":                      24,
		"(fst (snd (pair nat n (sig nat m nat) one (pair nat n nat (suc two) one))))": 3,
		// What is not asked for is not worked out.
		"((fn nat n one) " + huge + ")":           1,
		"(fst (pair nat n nat two " + huge + "))": 2,
		"(rec n nat two m k one " + huge + ")":    1,
		"(rec n nat one m k " + huge + " zero)":   1,
	} {
		x, _ := of(t, l, s, "nat")
		if n, ok := Number(l, x); n != want || !ok {
			t.Errorf("%s: %d comes, %t, not %d", s, n, ok, want)
		}
		if got := Show(l, x, nat); got != strconv.Itoa(want) {
			t.Errorf("%s: %q comes, not %d", s, got, want)
		}
	}
}

// TestK1EachNumberIsOne: of each numeral it is the number that it is of.
func TestK1EachNumberIsOne(t *testing.T) {
	l := taken(t, lines)
	for n := range 300 {
		for _, l := range [][]api.Decl{nil, {}, l} {
			if got, ok := Number(l, Numeral(n)); got != n || !ok {
				t.Errorf("%d: %d comes, %t", n, got, ok)
			}
			if got := Show(l, Numeral(n), nat); got != strconv.Itoa(n) {
				t.Errorf("%d: %q comes", n, got)
			}
		}
		// Of a sum it is the sum.
		x := m(api.TmApp, m(api.TmApp, def(3), Numeral(n)), Numeral(2*n))
		if got, ok := Number(l, x); got != 3*n || !ok {
			t.Errorf("%d: %d comes, %t", 3*n, got, ok)
		}
	}
}

// shown are terms, their types, and how they are shown.
var shown = [][3]string{
	{"zero", "nat", "0"},
	{"(suc zero)", "nat", "1"},
	{"(power (suc (suc two)))", "nat", "16"},
	{"((add (power (power two))) (suc one))", "nat", "18"},
	{"star", "unit", "*"},
	{"here", "unit", "*"},
	{"((fn nat n here) two)", "unit", "*"},
	{"(fst (pair unit n nat star two))", "unit", "*"},
	{"add", "(pi nat n (pi nat m nat))", "fn"},
	{"(add two)", "(pi nat n nat)", "fn"},
	{"(fn nat n n)", "(pi nat n nat)", "fn"},
	{"(fn empty e e)", "(pi empty e empty)", "fn"},
	{"(fn empty e (absurd nat e))", "(pi empty e nat)", "fn"},
	{"id", "(pi U0 a (pi a x a))", "fn"},
	{"((id (pi nat n nat)) power)", "(pi nat n nat)", "fn"},
	{"some", "(pi nat n U0)", "fn"},
	// Types, by their kind.
	{"nat", "U0", "nat"},
	{"unit", "U0", "unit"},
	{"empty", "U0", "empty"},
	{"(pi nat n nat)", "U0", "pi"},
	{"(sig nat n nat)", "U0", "sig"},
	{"U0", "U1", "U"},
	{"U1", "U2", "U"},
	{"U2", "U3", "U"},
	{"(pi nat n U0)", "U1", "pi"},
	{"(pi U2 a a)", "U3", "pi"},
	{"box", "U1", "sig"},
	{"ty", "U0", "nat"},
	{"(some zero)", "U0", "unit"},
	{"(some two)", "U0", "nat"},
	{"(fun zero)", "U0", "nat"},
	{"(fun one)", "U0", "pi"},
	{"((id nat) zero)", "ty", "0"},
	{"((fn U0 a a) empty)", "U0", "empty"},
	{"((fn U1 a a) U0)", "U1", "U"},
	{"(fst (pair U0 a a (sig nat n nat) (pair nat n nat one one)))", "U0", "sig"},
	// Pairs.
	{"(pair nat n nat one two)", "(sig nat n nat)", "(1, 2)"},
	{"(pair nat n nat two one)", "(sig nat n nat)", "(2, 1)"},
	{"(pair nat n unit one star)", "(sig nat n unit)", "(1, *)"},
	{"(pair unit n nat here (power two))", "(sig unit n nat)", "(*, 4)"},
	{"(pair unit n unit here star)", "(sig unit n unit)", "(*, *)"},
	{"(pair (pi nat n nat) n nat power (power one))", "(sig (pi nat n nat) n nat)", "(fn, 2)"},
	{"(pair nat n (sig nat m unit) one (pair nat m unit (suc one) star))", "(sig nat n (sig nat m unit))", "(1, (2, *))"},
	{"(pair (sig nat n nat) n nat (pair nat n nat zero one) two)", "(sig (sig nat n nat) n nat)", "((0, 1), 2)"},
	{"(pair (sig nat n nat) p (sig nat n nat) (pair nat n nat zero one) (pair nat n nat two (suc two)))", "(sig (sig nat n nat) p (sig nat n nat))", "((0, 1), (2, 3))"},
	{"((fn nat n (pair nat m (pi nat k nat) n (add n))) two)", "(sig nat m (pi nat k nat))", "(2, fn)"},
	{"((id (sig nat n nat)) (pair nat n nat one (fst this)))", "(sig nat n nat)", "(1, 2)"},
	{"(rec k (sig nat n nat) (pair nat n nat zero one) j i (pair nat n nat (snd i) ((add (fst i)) (snd i))) (power (suc two)))", "(sig nat n nat)", "(21, 34)"},
	// The second one's type hangs on the first one.
	{"this", "(sig nat n (some n))", "(2, 1)"},
	{"(pair nat n (some n) zero star)", "(sig nat n (some n))", "(0, *)"},
	{"(pair nat n (some n) (rec k nat one j i zero two) here)", "(sig nat n (some n))", "(0, *)"},
	{"(pair nat n (fun n) zero two)", "(sig nat n (fun n))", "(0, 2)"},
	{"(pair nat n (fun n) two add)", "(sig nat n (fun n))", "(2, fn)"},
	{"(pair nat n (sig (some n) m (fun n)) one (pair nat m (pi nat h nat) (suc two) power))", "(sig nat n (sig (some n) m (fun n)))", "(1, (3, fn))"},
	{"(pair nat n (sig nat m (some n)) zero (pair nat m unit two star))", "(sig nat n (sig nat m (some n)))", "(0, (2, *))"},
	{"(pair nat n (sig nat m (some m)) zero (pair nat m (some m) two one))", "(sig nat n (sig nat m (some m)))", "(0, (2, 1))"},
	{"(pair (sig nat n nat) p (some (snd p)) (pair nat n nat two zero) star)", "(sig (sig nat n nat) p (some (snd p)))", "((2, 0), *)"},
	{"(pair (sig nat n nat) p (some (fst p)) (pair nat n nat two zero) two)", "(sig (sig nat n nat) p (some (fst p)))", "((2, 0), 2)"},
	{"(pair U0 a a nat two)", "box", "(nat, 2)"},
	{"(pair U0 a a unit star)", "box", "(unit, *)"},
	{"(pair U0 a a (fun one) power)", "box", "(pi, fn)"},
	{"(pair U0 a a (sig nat n (some n)) this)", "box", "(sig, (2, 1))"},
	{"(pair U0 a (pi a x a) empty (id empty))", "(sig U0 a (pi a x a))", "(empty, fn)"},
	{"(pair U1 a a U0 nat)", "(sig U1 a a)", "(U, nat)"},
	{"(pair U2 a a U1 U0)", "(sig U2 a a)", "(U, U)"},
	{"(pair U1 a (sig a x a) U0 (pair U0 x U0 unit (some two)))", "(sig U1 a (sig a x a))", "(U, (unit, nat))"},
	// A type that is to be worked out.
	{"two", "ty", "2"},
	{"two", "(some one)", "2"},
	{"here", "(some zero)", "*"},
	{"power", "(fun one)", "fn"},
	{"U0", "((fn U2 a a) U1)", "U"},
	{"nat", "((fn nat n U0) zero)", "nat"},
	{"this", "(fst (pair U0 a a (sig nat n (some n)) this))", "(2, 1)"},
	{"(snd (pair U0 a a nat two))", "(fst (pair U0 a a nat two))", "2"},
	{"((fn nat n n) two)", "(rec n U0 unit m k (some m) two)", "2"},
	// What is not asked for is not worked out.
	{"(fn nat n " + huge + ")", "(pi nat n nat)", "fn"},
	{"((fn nat k (fn nat n ((add n) k))) " + huge + ")", "(pi nat n nat)", "fn"},
	{"((fn nat k (pi (some k) n nat)) " + huge + ")", "U0", "pi"},
	{"(sig (some " + huge + ") n nat)", "U0", "sig"},
	{"(pair nat n nat (fst (pair nat n nat one " + huge + ")) two)", "(sig nat n nat)", "(1, 2)"},
}

func TestK1Show(t *testing.T) {
	l := taken(t, lines)
	for _, c := range shown {
		x, typ := of(t, l, c[0], c[1])
		if got := Show(l, x, typ); got != c[2] {
			t.Errorf("%s of %s: %q comes, not %q", c[0], c[1], got, c[2])
		}
	}
}
