package canon

import (
	"math"
	"strconv"
	"strings"
	"testing"

	"sortkernel/api"
	"sortkernel/term"
)

// chains are types of as many pairs within one another as a number is: behind one another, and ahead of one another.
const chains = `(def one nat (suc zero))
(def power (pi nat n nat) (fn nat n (rec k nat one j i (rec k nat zero l h (suc (suc h)) i) n)))
(def chain (pi nat n U0) (fn nat n (rec k U0 unit j i (sig nat x i) n)))
(def niahc (pi nat n U0) (fn nat n (rec k U0 unit j i (sig i x nat) n)))
(def make (pi nat n (chain n)) (fn nat n (rec k (chain k) star j i (pair nat x (chain j) one i) n)))
(def ekam (pi nat n (niahc n)) (fn nat n (rec k (niahc k) star j i (pair (niahc j) x nat i one) n)))
(def tree (pi nat n U0) (fn nat n (rec k U0 unit j i (sig i x i) n)))
(def grow (pi nat n (tree n)) (fn nat n (rec k (tree k) star j i (pair (tree j) x (tree j) i i) n)))
`

// TestK1Large: of what is large, or deep within one another, as a few terms come to.
func TestK1Large(t *testing.T) {
	l := taken(t, chains)
	const deep = 1 << 15
	many := m(api.TmApp, def(1), Numeral(15))
	if n, ok := Number(l, many); n != deep || !ok {
		t.Errorf("%d comes, %t", n, ok)
	}
	for of, want := range map[[2]string]string{
		{"make", "chain"}: strings.Repeat("(1, ", deep) + "*" + strings.Repeat(")", deep),
		{"ekam", "niahc"}: strings.Repeat("(", deep) + "*" + strings.Repeat(", 1)", deep),
	} {
		got := Show(l, m(api.TmApp, read(t, l, of[0]), many), m(api.TmApp, read(t, l, of[1]), many))
		if got != want {
			t.Errorf("%q: %d bytes come, not %d", of, len(got), len(want))
		}
	}
	want := "*"
	for n := range 12 {
		x, typ := m(api.TmApp, read(t, l, "grow"), Numeral(n)), m(api.TmApp, read(t, l, "tree"), Numeral(n))
		if got := Show(l, x, typ); got != want {
			t.Errorf("%d: %d bytes come, not %d", n, len(got), len(want))
		}
		want = "(" + want + ", " + want + ")"
	}
}

// TestK1Deep: of terms with 2^16 parts nested in one another.
func TestK1Deep(t *testing.T) {
	const deep = 1<<16 - 4
	x := Numeral(deep)
	if n, ok := Number(nil, x); n != deep || !ok {
		t.Errorf("%d comes, %t", n, ok)
	}
	if got := Show(nil, x, nat); got != strconv.Itoa(deep) {
		t.Errorf("%q comes", got)
	}
	x, typ := star, unit
	for range deep {
		x, typ = m(api.TmPair, unit, typ, star, x), m(api.TmSig, unit, typ)
	}
	if got := Show(nil, x, typ); got != strings.Repeat("(*, ", deep)+"*"+strings.Repeat(")", deep) {
		t.Errorf("%d bytes come", len(got))
	}
	calls := zero
	for range deep {
		calls = m(api.TmApp, m(api.TmLam, nat, m(api.TmSuc, v(0))), calls)
	}
	if n, ok := Number(nil, calls); n != deep || !ok {
		t.Errorf("%d comes, %t", n, ok)
	}
}

// TestK1NoDeclarations: nil and lists without entries are the same.
func TestK1NoDeclarations(t *testing.T) {
	bare := api.Term{Kind: api.TmZero, Args: []api.Term{}}
	x := m(api.TmPair, nat, api.Term{Kind: api.TmUnit, Args: []api.Term{}}, bare, api.Term{Kind: api.TmStar, Args: []api.Term{}})
	for _, l := range [][]api.Decl{nil, {}} {
		if n, ok := Number(l, m(api.TmSuc, bare)); n != 1 || !ok {
			t.Errorf("%d comes, %t", n, ok)
		}
		if got := Show(l, x, m(api.TmSig, api.Term{Kind: api.TmNat, Args: []api.Term{}}, unit)); got != "(0, *)" {
			t.Errorf("%q comes", got)
		}
	}
}

// TestK1NoMeaning: what stands in fields that a kind has not is no matter.
func TestK1NoMeaning(t *testing.T) {
	x := api.Term{Kind: api.TmSuc, N: 7, Args: []api.Term{{Kind: api.TmZero, N: -3}}}
	if n, ok := Number(nil, x); n != 1 || !ok {
		t.Errorf("%d comes, %t", n, ok)
	}
	typ := api.Term{Kind: api.TmSig, N: 9, Args: []api.Term{{Kind: api.TmNat, N: 5}, {Kind: api.TmU, N: 1}}}
	pair := api.Term{Kind: api.TmPair, N: 1, Args: []api.Term{typ.Args[0], typ.Args[1], x, {Kind: api.TmUnit, N: 2}}}
	if got := Show(nil, pair, typ); got != "(1, unit)" {
		t.Errorf("%q comes", got)
	}
}

// TestK1Wrong: of what does not have the type, or none, nothing is promised; but it is no number then, no call panics,
// and what is no type shows nothing.
func TestK1Wrong(t *testing.T) {
	l := taken(t, lines)
	some := []api.Term{
		{}, {Kind: -1}, {Kind: 19, Args: []api.Term{nat}}, {Kind: math.MaxInt}, {Kind: math.MinInt},
		def(-1), def(len(l)), def(math.MinInt), def(math.MaxInt), v(-1), v(0), v(3), v(math.MinInt), v(math.MaxInt),
		star, nat, unit, u(0), u(-1), m(api.TmEmpty), def(2), def(3), def(9), def(10),
		m(api.TmPi), m(api.TmPi, nat), m(api.TmSig), m(api.TmSig, nat), m(api.TmSig, nat, nat, nat), m(api.TmSig, nat, v(1)), m(api.TmSig, v(0), nat),
		m(api.TmSig, nat, m(api.TmEmpty)), m(api.TmSig, nat, nat), m(api.TmSig, m(api.TmSig, nat, v(0)), m(api.TmFst, v(0))),
		m(api.TmLam), m(api.TmLam, nat), m(api.TmLam, nat, v(0)), m(api.TmApp), m(api.TmApp, nat, zero), m(api.TmApp, v(0), zero),
		m(api.TmPair), m(api.TmPair, nat, nat, zero), m(api.TmPair, nat, nat, star, star), m(api.TmPair, nat, nat, zero, zero),
		m(api.TmFst), m(api.TmFst, zero), m(api.TmSnd, v(0)), m(api.TmAbsurd, nat, v(0)), m(api.TmAbsurd),
		m(api.TmRec), m(api.TmRec, nat, zero, zero, v(0)), m(api.TmRec, nat, zero, zero, star), m(api.TmRec, nat, zero, v(5), sucs(zero, 2)),
		m(api.TmSuc), m(api.TmSuc, zero, zero), m(api.TmSuc, star), sucs(v(0), 3), sucs(m(api.TmRec, nat, zero, zero, v(0)), 2), m(api.TmZero, zero),
	}
	for _, x := range some {
		if n, ok := Number(l, x); ok != (x.Kind == api.TmDef && x.N == 2) || !ok && n != 0 {
			t.Errorf("%v: %d comes, %t", x, n, ok)
		}
		Number(nil, x)
		for _, typ := range some {
			Show(l, x, typ)
			Show(nil, x, typ)
		}
	}
	for _, typ := range []api.Term{{}, zero, star, v(0), def(-1), m(api.TmEmpty), m(api.TmSuc, zero), m(api.TmApp, zero, zero), m(api.TmPi, nat), m(api.TmSig, nat)} {
		if got := Show(l, zero, typ); got != "" {
			t.Errorf("%v: %q comes", typ, got)
		}
	}
	for _, x := range []api.Term{star, v(0), m(api.TmSuc, star), m(api.TmZero, zero)} {
		if got := Show(l, x, nat); got != "" {
			t.Errorf("%v: %q comes", x, got)
		}
	}
}

// TestK1OnlyReads: what is handed in is only read; on its spare room nothing hangs.
func TestK1OnlyReads(t *testing.T) {
	plain := taken(t, lines)
	for _, c := range shown {
		l, x, typ := roomyDecls(plain), roomy(read(t, plain, c[0])), roomy(read(t, plain, c[1]))
		first, firstOK := Number(l, x)
		if n, ok := Number(plain, read(t, plain, c[0])); n != first || ok != firstOK {
			t.Errorf("%s: %d comes, %t, not %d, %t", c[0], first, firstOK, n, ok)
		}
		for range 2 { // again it is the same
			if got := Show(l, x, typ); got != c[2] {
				t.Errorf("%s of %s: %q comes, not %q", c[0], c[1], got, c[2])
			}
		}
		if !sameRoomDecls(l, roomyDecls(plain)) || !sameRoom(x, roomy(read(t, plain, c[0]))) || !sameRoom(typ, roomy(read(t, plain, c[1]))) {
			t.Fatalf("%s of %s: what is handed in is changed", c[0], c[1])
		}
	}
}

// TestK1KeepsNothing: once what was handed in is changed, other calls answer what they answer of that.
func TestK1KeepsNothing(t *testing.T) {
	l, x, typ := taken(t, lines), m(api.TmPair, nat, nat, zero, def(2)), m(api.TmSig, nat, nat)
	got := Show(l, x, typ)
	x.Args[2], typ.Args[1], l[2].Body = def(0), m(api.TmPi, nat, nat), star
	if again := Show(l, x, typ); got != "(0, 2)" || again != "(1, fn)" {
		t.Errorf("%q, and then %q", got, again)
	}
	number := m(api.TmSuc, m(api.TmSuc, zero))
	n, _ := Number(nil, number)
	number.Args[0] = term.Copy(zero)
	if again, _ := Number(nil, number); n != 2 || again != 1 {
		t.Errorf("%d, and then %d", n, again)
	}
}
