package infer

import (
	"testing"

	"sortkernel/api"
	"sortkernel/term"
)

// TestExample7: (pi U0 a a) is a type of height 1.
func TestExample7(t *testing.T) {
	p := at(t)
	if n, e := Sort(p.decls, p.ctx, p.read("(pi U0 a a)")); n != 1 || e != api.OK {
		t.Errorf("%d, %d", n, e)
	}
}

// TestG2Bound: what is bound is of its type, where all are bound; as that comes to.
func TestG2Bound(t *testing.T) {
	p := at(t, "v", "U0", "x", "v", "f", "(pi v y (pi nat n U0))", "a", "((f x) zero)", "y", "((fn U0 z z) v)")
	p.of("U0", "v")
	p.of("v", "x", "y")
	p.of("(pi v y (pi nat n U0))", "f")
	p.of("((f x) zero)", "a")
	p = at(t, "g", "(fun one)", "s", "(some zero)", "z", "((fn U1 z z) U0)")
	p.of("(pi nat n nat)", "g")
	p.of("unit", "s")
	p.of("U0", "z")
}

func TestG2Declared(t *testing.T) {
	p := at(t, "a", "nat")
	p.of("nat", "one")
	p.of("(pi nat n (pi nat m nat))", "add")
	p.of("(pi nat n U0)", "some", "fun")
	p.of("(pi nat n nat)", "next", "power")
	p.of("(pi U0 a (pi a x a))", "id")
}

func TestG2Heights(t *testing.T) {
	p := at(t)
	p.of("U1", "U0")
	p.of("U2", "U1")
	p.of("U3", "U2")
	p.bad(api.ErrRange, "U3")
	p.of("U0", "unit", "empty", "nat")
	p.of("unit", "star")
	p.of("nat", "zero")
}

func TestG2Suc(t *testing.T) {
	p := at(t, "a", "nat", "b", "(some one)", "f", "(pi nat n nat)", "s", "unit", "e", "empty")
	p.of("nat", "(suc zero)", "(suc (suc (suc a)))", "(suc b)", "(suc (f a))", "(suc one)", "(suc ((id nat) a))", "(suc (absurd nat e))")
	p.bad(api.ErrType, "(suc star)", "(suc s)", "(suc nat)", "(suc f)", "(suc e)", "(suc (suc unit))", "(suc U2)")
	p.bad(api.ErrRange, "(suc U3)")
	p.bad(api.ErrFun, "(suc (a a))")
	p.bad(api.ErrPair, "(suc (fst a))")
}

func TestG2PiAndSig(t *testing.T) {
	p := at(t, "v", "U0", "w", "U1", "x", "v", "z", "((fn U1 z z) U0)", "h", "(pi nat n U1)", "e", "empty")
	for _, k := range []string{"(pi ", "(sig "} {
		p.of("U0", k+"nat n nat)", k+"v y v)", k+"z y nat)", k+"nat n (some n))", k+"(some one) n (fun n))", k+"empty y (sig v q z))", k+"nat n (absurd U0 e))")
		p.of("U1", k+"U0 a a)", k+"nat n U0)", k+"w y nat)", k+"nat n (h n))", k+"nat n w)", k+"U0 a (pi a y U0))", k+"(absurd U1 e) y nat)")
		p.of("U2", k+"U1 a a)", k+"U0 a U1)", k+"nat n U1)", k+"U1 a U0)", k+"w y U1)")
		p.of("U3", k+"U2 a a)", k+"U2 a U0)", k+"U0 a U2)", k+"nat n U2)")

		p.bad(api.ErrSort, k+"zero n nat)", k+"x y nat)", k+"next n nat)", k+"nat n n)", k+"U0 a (fn a y y))", k+"v y y)", k+"v y x)", k+"some n nat)", k+"nat n h)")
		p.bad(api.ErrRange, k+"U3 a nat)", k+"nat n U3)")
		p.bad(api.ErrType, k+"(suc star) n nat)", k+"nat n (some v))", k+"U0 a (some a))")
		p.bad(api.ErrFun, k+"(zero zero) n nat)", k+"nat n (n n))")
		p.bad(api.ErrPair, k+"(fst zero) n nat)", k+"nat n (snd n))")
		// A's comes first.
		p.bad(api.ErrSort, k+"zero n U3)", k+"zero n (n n))", k+"x y (fst y))")
		p.bad(api.ErrRange, k+"U3 a zero)", k+"U3 a (a a))")
		p.bad(api.ErrFun, k+"(zero zero) n zero)", k+"(zero zero) n U3)")
	}
}

func TestG2Lam(t *testing.T) {
	p := at(t, "v", "U0", "x", "v", "a", "nat")
	p.of("(pi nat n nat)", "(fn nat n n)", "(fn nat n zero)", "(fn nat n (suc n))", "(fn (some one) n n)", "(fn nat n a)")
	p.of("(pi v y v)", "(fn v y y)", "(fn v y x)", "(fn ((fn U0 z z) v) y y)")
	p.of("(pi U0 b (pi b y b))", "(fn U0 b (fn b y y))")
	p.of("(pi U0 b (pi b y v))", "(fn U0 b (fn b y x))")
	p.of("(pi U0 b (pi (pi b y b) f (pi b y b)))", "(fn U0 b (fn (pi b y b) f (fn b y (f (f y)))))", "(fn U0 b (fn (pi b y b) f f))")
	p.of("(pi nat n (pi nat k U0))", "(fn nat n some)", "(fn nat n (fn nat k (some n)))")
	p.of("(pi nat n U1)", "(fn nat n U0)")
	p.of("(pi nat n (some n))", "(fn nat n (rec k (some k) star j i zero n))")
	// Of a type that has no type.
	p.of("(pi nat n U3)", "(fn nat n U2)")
	p.of("(pi U2 b U3)", "(fn U2 b (pi b y U2))")
	p.of("(pi U2 b U2)", "(fn U2 b (pi b y U1))")

	p.bad(api.ErrSort, "(fn zero n n)", "(fn x y y)", "(fn next n n)", "(fn nat n (fn n k k))")
	p.bad(api.ErrRange, "(fn U3 b b)", "(fn nat n U3)")
	p.bad(api.ErrType, "(fn (some star) n n)", "(fn nat n (suc star))", "(fn v y (suc y))")
	p.bad(api.ErrFun, "(fn (zero zero) n n)", "(fn nat n (n n))")
	p.bad(api.ErrPair, "(fn (fst zero) n n)", "(fn nat n (snd n))")
	// A's comes first.
	p.bad(api.ErrSort, "(fn zero n (n n))", "(fn zero n U3)", "(fn x y (fst y))")
	p.bad(api.ErrRange, "(fn U3 b (b b))")
	p.bad(api.ErrFun, "(fn (zero zero) n (suc star))", "(fn (zero zero) n U3)")
}

func TestG2App(t *testing.T) {
	p := at(t, "v", "U0", "x", "v", "f", "(pi nat n nat)", "g", "(fun one)", "e", "empty", "c", "(pi unit s nat)")
	p.of("nat", "(f zero)", "(g zero)", "(next (f one))", "((add one) (g zero))", "((fn nat n n) zero)", "(((id (pi nat n nat)) f) zero)", "(((id (fun one)) f) zero)", "((fn U0 b zero) v)", "((absurd (pi nat n nat) e) zero)", "(c star)")
	p.of("v", "((id v) x)", "((fn v y y) x)", "((fn nat n x) zero)")
	p.of("(pi v y v)", "(id v)", "((fn U0 b (fn b y y)) v)")
	p.of("U0", "(some zero)", "((fn U0 b b) nat)")
	p.of("U3", "((fn nat n U2) zero)")
	p.of("U2", "((fn nat n U1) zero)")

	p.bad(api.ErrFun, "(zero zero)", "(x x)", "(nat zero)", "(star star)", "(e zero)", "((f zero) zero)", "((pair nat n nat zero zero) zero)", "(U0 nat)", "((pi nat n nat) zero)")
	p.bad(api.ErrType, "(f star)", "(f x)", "(f f)", "(some nat)", "(id zero)", "(id U0)", "((id v) zero)", "((id nat) x)", "(g star)", "((fn U1 b b) nat)", "((fn U0 b b) U0)", "(c zero)")
	// f's errors, that it is no function, and a's, in turn.
	p.bad(api.ErrRange, "(U3 zero)", "(U3 (zero zero))", "(U3 (fst zero))")
	p.bad(api.ErrPair, "((fst zero) (zero zero))", "((fst zero) U3)", "((snd x) star)")
	p.bad(api.ErrType, "((f star) (zero zero))", "((suc star) U3)")
	p.bad(api.ErrFun, "(zero U3)", "(zero (suc star))", "(zero (fst zero))", "((zero zero) (fst zero))")
	p.bad(api.ErrRange, "(f U3)", "(id U3)")
	p.bad(api.ErrPair, "(f (fst zero))")
	p.bad(api.ErrFun, "(f (zero zero))")
	p.bad(api.ErrSort, "(f (fn zero n n))")
}

// TestG2AppOfTheirOwn: the type hangs on what the function is of.
func TestG2AppOfTheirOwn(t *testing.T) {
	p := at(t, "f", "(pi nat n nat)", "w", "(pi nat n U0)", "h", "(pi nat n (w n))", "k", "(pi (pi nat n nat) q (w (q zero)))")
	p.of("U0", "(w zero)")
	p.of("(w zero)", "(h zero)", "(h ((fn nat n n) zero))")
	p.of("(w (suc zero))", "(h one)", "(h (next zero))", "((fn nat n (h n)) one)", "((fn nat n (h (suc n))) zero)")
	p.of("(w (f zero))", "(k f)", "(h (f zero))")
	p.of("(w (suc zero))", "(k next)", "(k (fn nat n (suc n)))")
	p.of("(pi (w zero) y (w zero))", "((fn nat n (fn (w n) y y)) zero)")
	p.of("(pi nat n (w (suc n)))", "((fn (pi nat n nat) q (fn nat n (h (q n)))) next)")
	p.of("(pi nat n (w (f n)))", "((fn (pi nat n nat) q (fn nat n (h (q n)))) f)", "(fn nat n (h (f n)))")
	p.bad(api.ErrFun, "((h zero) zero)")
	p.bad(api.ErrType, "(w nat)", "(k h)", "(k zero)", "(((fn nat n (fn (w n) y y)) zero) (h one))")
	p.of("(w zero)", "(((fn nat n (fn (w n) y y)) zero) (h zero))")
}

func TestG2Pair(t *testing.T) {
	p := at(t, "v", "U0", "x", "v", "w", "(pi nat n U0)", "h", "(pi nat n (w n))", "a", "nat", "e", "empty")
	p.of("(sig nat n nat)", "(pair nat n nat zero one)", "(pair (some one) n (some (suc n)) zero a)", "(pair nat n (fun zero) a zero)")
	p.of("(sig nat n (some n))", "(pair nat n (some n) zero star)", "(pair nat n (some n) one zero)", "(pair nat n (some n) (next a) a)")
	p.of("(sig nat n (w n))", "(pair nat n (w n) a (h a))", "(pair nat n (w n) one (h (next zero)))")
	p.of("(sig U0 b b)", "(pair U0 b b nat zero)", "(pair U0 b b v x)", "(pair U0 b b (some zero) star)")
	p.of("(sig nat n (sig (w n) y (w n)))", "(pair nat n (sig (w n) y (w n)) a (pair (w a) y (w a) (h a) (h a)))")
	p.of("(sig U1 b U0)", "(pair U1 b U0 U0 nat)")
	p.of("(sig U2 b U2)", "(pair U2 b U2 U1 U1)")

	p.bad(api.ErrSort, "(pair zero n nat zero zero)", "(pair nat n n zero zero)", "(pair x n nat zero zero)", "(pair nat n some zero zero)")
	p.bad(api.ErrRange, "(pair U3 b nat U2 zero)", "(pair nat n U3 zero U2)", "(pair U2 b nat U3 zero)", "(pair nat n U2 zero U3)")
	p.bad(api.ErrType, "(pair nat n nat star zero)", "(pair nat n nat zero star)", "(pair nat n (some n) zero zero)", "(pair nat n (some n) one star)", "(pair nat n (some n) a star)", "(pair nat n (some n) a zero)", "(pair nat n (w n) a (h zero))", "(pair U0 b b nat x)", "(pair U0 b b U0 nat)", "(pair U1 b b nat zero)")
	// A's, B's, a's and b's, in turn.
	p.bad(api.ErrFun, "(pair (zero zero) n zero U3 (fst zero))", "(pair nat n (n n) U3 (fst zero))", "(pair nat n nat (zero zero) U3)", "(pair nat n nat zero (zero zero))")
	p.bad(api.ErrSort, "(pair zero n U3 (fst zero) (zero zero))", "(pair nat n zero (fst zero) (zero zero))")
	p.bad(api.ErrType, "(pair nat n nat star (zero zero))", "(pair nat n nat star U3)")
	p.bad(api.ErrPair, "(pair nat n nat (fst zero) (zero zero))")
}

func TestG2Halves(t *testing.T) {
	p := at(t, "p", "(sig nat n unit)", "r", "((fn U0 z z) (sig nat n (some n)))", "s", "(sig U0 b b)", "a", "nat", "e", "empty")
	p.of("nat", "(fst p)", "(fst r)", "(fst (pair nat n unit zero star))", "(snd (pair nat n nat zero one))", "(fst (absurd (sig nat n unit) e))", "(snd (pair nat n (some n) one a))")
	p.of("unit", "(snd p)", "(snd (pair nat n (some n) zero star))", "(snd (absurd (sig nat n unit) e))")
	p.of("U0", "(fst s)")
	p.of("(fst s)", "(snd s)", "(snd (pair U0 b b (fst s) (snd s)))")
	p.of("(some (fst r))", "(snd r)")

	p.bad(api.ErrPair, "(fst zero)", "(snd zero)", "(fst star)", "(snd some)", "(fst nat)", "(snd (sig nat n nat))", "(fst (fst p))", "(snd (snd p))", "(fst e)", "(snd (fn nat n p))", "(fst (snd s))")
	p.bad(api.ErrRange, "(fst U3)", "(snd U3)")
	p.bad(api.ErrType, "(fst (suc star))", "(snd (pair nat n nat zero star))")
	p.bad(api.ErrFun, "(fst (zero zero))", "(snd (p zero))")
	p.bad(api.ErrSort, "(fst (pair nat n zero zero zero))")
}

// TestG2HalvesOfTheirOwn: the second one's type hangs on the first one.
func TestG2HalvesOfTheirOwn(t *testing.T) {
	p := at(t, "w", "(pi nat n U0)", "q", "(sig nat n (w n))", "o", "(sig (sig nat n (w n)) y (w (fst y)))", "e", "empty")
	p.of("nat", "(fst q)", "(fst (fst o))")
	p.of("(w (fst q))", "(snd q)")
	p.of("(w (fst (fst o)))", "(snd (fst o))", "(snd o)")
	p.of("(sig nat n (w n))", "(fst o)")
	p.of("(w zero)", "(snd (pair nat n (w n) zero (absurd (w zero) e)))")
	p.of("(w (fst (absurd (sig nat n (w n)) e)))", "(snd (absurd (sig nat n (w n)) e))")
	p.bad(api.ErrPair, "(fst (snd q))", "(snd (fst (fst o)))")
}

func TestG2Absurd(t *testing.T) {
	p := at(t, "e", "empty", "d", "(rec n U0 empty i j unit zero)", "a", "nat", "v", "U0")
	p.of("nat", "(absurd nat e)", "(absurd (some one) e)", "(absurd nat (absurd empty e))", "(absurd nat d)")
	p.of("v", "(absurd v e)")
	p.of("U1", "(absurd U1 e)")
	p.of("(pi v y v)", "(absurd (pi v y v) d)")
	p.of("(absurd U0 e)", "(absurd (absurd U0 e) e)")
	p.of("empty", "(absurd empty e)")

	p.bad(api.ErrSort, "(absurd zero e)", "(absurd a e)", "(absurd some e)")
	p.bad(api.ErrRange, "(absurd U3 e)", "(absurd nat U3)")
	p.bad(api.ErrType, "(absurd nat zero)", "(absurd nat star)", "(absurd nat empty)", "(absurd nat a)", "(absurd empty a)", "(absurd nat (absurd nat e))")
	// A's comes first.
	p.bad(api.ErrSort, "(absurd zero zero)", "(absurd zero U3)", "(absurd a (zero zero))")
	p.bad(api.ErrFun, "(absurd (zero zero) zero)", "(absurd (zero zero) U3)", "(absurd nat (zero zero))")
}

func TestG2Rec(t *testing.T) {
	p := at(t, "a", "nat", "v", "U0", "x", "v", "b", "(some one)", "e", "empty")
	p.of("nat", "(rec n nat zero m k (suc k) a)", "(rec n nat zero m k m (suc one))", "(rec n (some one) zero m k k a)", "(rec n nat a m k k b)", "(rec n (some n) star m k zero one)", "(rec n nat b m k ((add m) k) zero)")
	p.of("unit", "(rec n (some n) star m k zero zero)")
	p.of("(some a)", "(rec n (some n) star m k zero a)", "(rec n (some n) star m k m a)")
	p.of("U0", "(rec n U0 nat m k (pi nat h k) a)", "(rec n U0 nat m k k zero)")
	p.of("U1", "(rec n U1 U0 m k (pi nat h k) a)")
	p.of("(fun a)", "(rec n (fun n) zero m f (fn nat h f) a)")
	p.of("(pi nat h nat)", "(rec n (fun n) zero m f (fn nat h f) one)", "(rec n (pi nat h nat) next m f (fn nat h (f (f h))) a)")
	p.of("v", "(rec n v x m k k a)")

	p.bad(api.ErrSort, "(rec n zero zero m k k zero)", "(rec n n zero m k k zero)", "(rec n some zero m k k zero)", "(rec n x x m k k zero)")
	p.bad(api.ErrRange, "(rec n U3 U2 m k k zero)", "(rec n nat U3 m k k zero)", "(rec n nat zero m k U3 zero)", "(rec n nat zero m k k U3)", "(rec n U2 U1 m k U3 zero)")
	p.bad(api.ErrType, "(rec n nat star m k k zero)", "(rec n nat zero m k star zero)", "(rec n nat zero m k k star)",
		"(rec n (some n) zero m k zero one)", "(rec n (some n) star m k star one)", "(rec n (some n) star m k k one)",
		"(rec n U1 nat m k k a)", "(rec n U0 U0 m k k a)", "(rec n v x m k m a)", "(rec n nat zero m k k e)")
	// C's, z's, s's, and the number's, in turn.
	p.bad(api.ErrSort, "(rec n zero (zero zero) m k U3 (fst zero))")
	p.bad(api.ErrFun, "(rec n (n n) star m k U3 (fst zero))", "(rec n nat (zero zero) m k U3 (fst zero))", "(rec n nat zero m k (k k) (fst zero))", "(rec n nat zero m k k (zero zero))")
	p.bad(api.ErrType, "(rec n nat star m k (k k) (fst zero))", "(rec n nat zero m k star (fst zero))", "(rec n nat zero m k star U3)")
	p.bad(api.ErrPair, "(rec n nat (fst zero) m k star (zero zero))", "(rec n nat zero m k (fst k) star)", "(rec n nat zero m k k (fst zero))")
}

// TestG2RecOfTheirOwn: of a type for each number: what comes of one is of that one's, and s is of one more's.
func TestG2RecOfTheirOwn(t *testing.T) {
	p := at(t, "a", "nat", "w", "(pi nat n U0)", "z", "(w zero)", "s", "(pi nat n (pi (w n) y (w (suc n))))")
	p.of("(w a)", "(rec n (w n) z m k ((s m) k) a)")
	p.of("(w (suc (suc zero)))", "(rec n (w n) z m k ((s m) k) (suc one))")
	p.of("(w (suc a))", "(rec n (w n) z m k ((s m) k) (next a))")
	p.of("(w zero)", "(rec n (w n) z m k ((s m) k) zero)")
	p.bad(api.ErrType, "(rec n (w n) (s zero) m k ((s m) k) a)", "(rec n (w n) z m k k a)", "(rec n (w n) z m k ((s k) k) a)", "(rec n (w n) z m k ((s m) z) a)", "(rec n (w n) z m k ((s m) k) z)", "(rec n (w n) z m k z a)", "(rec n (w (suc n)) z m k ((s (suc m)) k) a)", "(rec n (w n) z m k ((s a) k) a)")
	p.of("(w (suc a))", "(rec n (w (suc n)) ((s zero) z) m k ((s (suc m)) k) a)")
}

// TestG1Sort: Infer's error, that it is no type, or its height.
func TestG1Sort(t *testing.T) {
	p := at(t, "w", "(pi nat n U1)", "z", "((fn U2 z z) U1)", "e", "empty", "y", "(absurd U1 e)", "q", "(rec n U1 U0 i j j zero)")
	for s, want := range map[string]int{"nat": 0, "unit": 0, "empty": 0, "U0": 1, "U1": 2, "U2": 3, "(w zero)": 1, "z": 1, "q": 0, "(pi nat n nat)": 0, "(pi U0 a a)": 1, "(sig U1 a a)": 2, "(pi U2 a U2)": 3, "(some zero)": 0, "((fn U2 a a) U1)": 2, "(absurd U0 e)": 0, "(absurd U1 e)": 1, "(rec n U1 U0 i j (pi nat k j) zero)": 1, "((fn nat n U2) zero)": 3} {
		if n, e := Sort(p.decls, p.ctx, p.read(s)); n != want || e != api.OK {
			t.Errorf("%s: %d comes, %d", s, n, e)
		}
	}
	for s, want := range map[string]api.Errno{"zero": api.ErrSort, "star": api.ErrSort, "w": api.ErrSort, "e": api.ErrSort, "y": api.ErrSort, "(fn nat n nat)": api.ErrSort, "some": api.ErrSort, "(pair U0 a a nat zero)": api.ErrSort, "U3": api.ErrRange, "(zero zero)": api.ErrFun, "(fst zero)": api.ErrPair, "(suc star)": api.ErrType} {
		if n, e := Sort(p.decls, p.ctx, p.read(s)); n != 0 || e != want {
			t.Errorf("%s: %d comes, %d", s, n, e)
		}
	}
}

// TestG1Check: Infer's error, that it is of another type, or nothing; types are held as what they come to.
func TestG1Check(t *testing.T) {
	p := at(t, "v", "U0", "x", "v", "a", "nat", "i", "(some a)")
	for _, c := range []struct {
		s, of string
		want  api.Errno
	}{
		{"zero", "(some one)", api.OK}, {"star", "(some zero)", api.OK}, {"zero", "(some zero)", api.ErrType}, {"zero", "(some a)", api.ErrType}, {"i", "(some a)", api.OK}, {"i", "nat", api.ErrType}, {"i", "((fn nat n (some n)) a)", api.OK},
		{"next", "(pi nat n (some (suc n)))", api.OK}, {"next", "(pi nat n (some n))", api.ErrType}, {"add", "(fun (suc one))", api.OK}, {"add", "(fun one)", api.ErrType},
		{"x", "v", api.OK}, {"x", "((fn U0 z z) v)", api.OK}, {"x", "nat", api.ErrType}, {"x", "U0", api.ErrType},
		// Heights are just those.
		{"nat", "U0", api.OK}, {"nat", "U1", api.ErrType}, {"U0", "U1", api.OK}, {"U0", "U2", api.ErrType}, {"U0", "U0", api.ErrType}, {"(pi U0 a a)", "U1", api.OK}, {"(pi U0 a a)", "U0", api.ErrType}, {"(fn nat n nat)", "(pi nat n U0)", api.OK}, {"(fn nat n nat)", "(pi nat n U1)", api.ErrType}, {"(fn nat n U2)", "(pi nat n U2)", api.ErrType},
		{"(zero zero)", "nat", api.ErrFun}, {"U3", "nat", api.ErrRange}, {"(fst zero)", "U0", api.ErrPair}, {"(pi zero n nat)", "U0", api.ErrSort}, {"(suc star)", "nat", api.ErrType},
	} {
		p.checks(c.s, c.of, c.want)
	}
}

// TestG1CheckStuck: types that are stuck are the same if what they are of is, by its type.
func TestG1CheckStuck(t *testing.T) {
	p := at(t, "f", "(pi unit s nat)", "w", "(pi (pi unit s nat) f U0)", "y", "(w f)", "s", "unit", "k", "(pi unit s U0)", "j", "(k s)")
	for _, of := range []string{"(w f)", "(w (fn unit t (f t)))", "(w (fn unit t (f star)))", "(w (fn unit t (f s)))"} {
		p.checks("y", of, api.OK)
		p.checks("(fn nat n y)", "(pi nat n "+of+")", api.OK)
		p.checks("((fn "+of+" z z) y)", "(w f)", api.OK)
	}
	p.checks("y", "(w (fn unit t zero))", api.ErrType)
	p.checks("y", "(k s)", api.ErrType)
	p.bad(api.ErrType, "((fn (w (fn unit t zero)) z z) y)")
	p.checks("j", "(k s)", api.OK)
	p.checks("j", "(k star)", api.OK)
}

// TestG1Context: the first one that is no type where those ahead of it are, and its number; -1, if there is none.
func TestG1Context(t *testing.T) {
	p := at(t)
	for _, c := range []struct {
		l    []api.Term
		want api.Errno
		at   int
	}{
		{nil, api.OK, -1}, {[]api.Term{}, api.OK, -1},
		{[]api.Term{nat}, api.OK, -1}, {[]api.Term{u(0), u(1), u(2)}, api.OK, -1},
		{[]api.Term{u(0), v(0), v(1)}, api.OK, -1},
		{[]api.Term{u(0), v(0), m(api.TmPi, v(1), u(0)), m(api.TmApp, v(0), v(1)), m(api.TmSig, v(3), v(4))}, api.OK, -1},
		{[]api.Term{p.read("(some one)"), m(api.TmApp, p.read("some"), v(0))}, api.OK, -1},
		{[]api.Term{zero}, api.ErrSort, 0}, {[]api.Term{u(3)}, api.ErrRange, 0}, {[]api.Term{u(3), zero}, api.ErrRange, 0},
		{[]api.Term{nat, zero}, api.ErrSort, 1}, {[]api.Term{nat, v(0)}, api.ErrSort, 1},
		{[]api.Term{u(0), v(0), v(0)}, api.ErrSort, 2}, {[]api.Term{u(0), v(0), v(1), v(0)}, api.ErrSort, 3},
		{[]api.Term{nat, nat, m(api.TmSuc, v(0))}, api.ErrSort, 2},
		{[]api.Term{nat, u(0), m(api.TmApp, v(0), v(1)), zero}, api.ErrFun, 2},
		{[]api.Term{nat, m(api.TmPi, nat, m(api.TmFst, v(0))), u(3)}, api.ErrPair, 1},
		{[]api.Term{unit, m(api.TmApp, p.read("some"), v(0)), nat}, api.ErrType, 1},
		{[]api.Term{nat, nat, nat, u(3), u(3)}, api.ErrRange, 3},
	} {
		if e, at := Context(p.decls, c.l); e != c.want || at != c.at {
			t.Errorf("%v: %d comes, at %d", c.l, e, at)
		}
	}
}

// TestG1Empty: nil and a list without entries are the same.
func TestG1Empty(t *testing.T) {
	for _, decls := range [][]api.Decl{nil, {}} {
		for _, ctx := range [][]api.Term{nil, {}} {
			x := m(api.TmLam, api.Term{Kind: api.TmNat, Args: []api.Term{}}, v(0))
			want := m(api.TmPi, nat, nat)
			if got, e := Infer(decls, ctx, x); e != api.OK || !term.Same(got, want) {
				t.Errorf("%v, %d", got, e)
			}
			if e := Check(decls, ctx, x, want); e != api.OK {
				t.Errorf("%d", e)
			}
			if n, e := Sort(decls, ctx, want); e != api.OK || n != 0 {
				t.Errorf("%d, %d", n, e)
			}
			if e, at := Context(decls, ctx); e != api.OK || at != -1 {
				t.Errorf("%d, %d", e, at)
			}
		}
	}
}
