package conv

import (
	"testing"

	"sortkernel/api"
)

// TestExample6: a function a is the same as one of anything, which is a of that.
func TestExample6(t *testing.T) {
	p := at(t, "a", "(pi nat n nat)")
	p.same("(pi nat n nat)", "a", "(fn nat n (a n))")
}

func TestF1Functions(t *testing.T) {
	p := at(t, "f", "(pi nat n nat)", "g", "(pi nat n nat)", "h", "(pi nat n (pi nat m nat))")
	p.same("(pi nat n nat)", "f", "(fn nat n (f n))", "(fn nat n ((fn nat m (f m)) n))", "((fn (pi nat n nat) k k) f)")
	p.apart("(pi nat n nat)", "f", "g", "(fn nat n n)", "(fn nat n zero)", "(fn nat n (suc n))", "(fn nat n (f (f n)))", "(fn nat n (f (g n)))", "(h zero)", "(h one)")
	p.same("(pi nat n (pi nat m nat))", "h", "(fn nat n (h n))", "(fn nat n (fn nat m ((h n) m)))")
	p.apart("(pi nat n (pi nat m nat))", "h", "(fn nat n (fn nat m ((h m) n)))", "(fn nat n (fn nat m n))", "(fn nat n (fn nat m m))", "(fn nat n f)", "(fn nat n (fn nat m (f n)))")
	p.same("(pi (pi nat n nat) k nat)", "(fn (pi nat n nat) k (k zero))", "(fn (pi nat n nat) k ((fn nat i (k i)) zero))")
	p.apart("(pi (pi nat n nat) k nat)", "(fn (pi nat n nat) k (k zero))", "(fn (pi nat n nat) k (k one))", "(fn (pi nat n nat) k (f zero))")
	// Of what a function is said to be of nothing hangs, but on its type.
	p.same("(pi nat n nat)", "(fn nat n n)", "(fn (rec n U0 nat i j j one) n n)")
	p.same("(fun (suc one))", "h", "(fn nat n (fn nat m ((h n) m)))")
}

// TestF1FunctionsOfTheirOwn: the type of what comes hangs on what the function is of.
func TestF1FunctionsOfTheirOwn(t *testing.T) {
	p := at(t, "f", "(pi nat n (some n))", "g", "(pi nat n (some n))")
	p.apart("(pi nat n (some n))", "f", "g", "(fn nat n (rec k (some k) star i j i n))", "(fn nat n (rec k (some k) star i j zero n))")
	p.same("(pi nat n (some n))", "f", "(fn nat n (f n))")
	p.same("(some zero)", "(f zero)", "(g zero)", "star")
	p.apart("(some one)", "(f one)", "(g one)", "zero", "one")
	p = at(t, "f", "(pi U0 v (pi v x v))")
	p.same("(pi U0 v (pi v x v))", "f", "(fn U0 v (f v))", "(fn U0 v (fn v x ((f v) x)))")
	p.apart("(pi U0 v (pi v x v))", "f", "(fn U0 v (fn v x x))", "(fn U0 v (fn v x ((f v) ((f v) x))))")
	p.same("(pi unit x unit)", "(f unit)", "(fn unit x x)", "(fn unit x star)")
	p.same("unit", "((f unit) star)", "star")
	p.same("nat", "((f nat) zero)", "((f nat) (rec n nat zero i j j one))", "((f (rec n U0 nat i j j zero)) zero)")
	p.apart("nat", "((f nat) zero)", "((f nat) one)", "zero")
	p.same("(pi unit x unit)", "(f unit)", "(fn unit x ((f unit) x))")
	p.same("nat", "(((f (pi nat n nat)) (fn nat n n)) zero)", "(((f (pi nat n nat)) (fn nat n (rec k nat n i j j zero))) zero)")
}

func TestF1Pairs(t *testing.T) {
	p := at(t, "p", "(sig nat n nat)", "q", "(sig nat n nat)", "a", "nat")
	p.same("(sig nat n nat)", "p", "(pair nat n nat (fst p) (snd p))", "(pair (rec n U0 nat i j j one) n nat (fst p) (snd p))")
	p.apart("(sig nat n nat)", "p", "q", "(pair nat n nat (fst p) (snd q))", "(pair nat n nat (fst q) (snd p))", "(pair nat n nat (snd p) (fst p))", "(pair nat n nat a a)", "(pair nat n nat a zero)", "(pair nat n nat zero a)", "(pair nat n nat zero zero)")
	p.same("nat", "(fst p)", "(fst (pair nat n nat (fst p) a))")
	p.same("nat", "(snd p)", "(snd (pair nat n nat a (snd p)))")
	p.apart("nat", "(fst p)", "(snd p)", "(fst q)", "(snd q)", "a")
	p = at(t, "p", "(sig nat n (sig nat m unit))")
	p.same("(sig nat n (sig nat m unit))", "p", "(pair nat n (sig nat m unit) (fst p) (snd p))", "(pair nat n (sig nat m unit) (fst p) (pair nat m unit (fst (snd p)) star))")
}

// TestF1PairsOfTheirOwn: the type of the second half hangs on the first one.
func TestF1PairsOfTheirOwn(t *testing.T) {
	p := at(t, "p", "(sig nat n (some n))", "q", "(sig nat n (some n))", "e", "empty")
	of := "(sig nat n (some n))"
	p.same(of, "p", "(pair nat n (some n) (fst p) (snd p))")
	p.same(of, "(pair nat n (some n) zero star)", "(pair nat n (some n) zero (absurd unit e))", "(pair nat n (some n) (rec k nat zero i j j zero) (absurd (some zero) e))")
	p.apart(of, "p", "q", "(pair nat n (some n) zero star)", "(pair nat n (some n) one zero)", "(pair nat n (some n) one one)", "(pair nat n (some n) (suc one) one)", "(pair nat n (some n) one (absurd nat e))", "(absurd (sig nat n (some n)) e)")
	p.same("(some (fst p))", "(snd p)")
	p.same("(sig unit x (pi unit y unit))", "(pair unit x (pi unit y unit) star (fn unit y y))", "(pair unit x (pi unit y unit) (absurd unit e) (absurd (pi unit y unit) e))")
	p = at(t, "p", "(sig U0 v v)")
	p.same("(sig U0 v v)", "p", "(pair U0 v v (fst p) (snd p))")
	p.same("(sig U0 v v)", "(pair U0 v v unit star)", "(pair U0 v v ((fn U0 x x) unit) ((fn unit x x) star))")
	p.apart("(sig U0 v v)", "p", "(pair U0 v v unit star)", "(pair U0 v v nat zero)", "(pair U0 v v nat one)")
	p.same("(fst p)", "(snd p)", "((fn (fst p) x x) (snd p))")
}

func TestF1One(t *testing.T) {
	p := at(t, "a", "unit", "b", "unit", "f", "(pi unit x unit)", "e", "empty", "p", "(sig unit n unit)")
	p.same("unit", "a", "b", "star", "(f a)", "(f star)", "(absurd unit e)", "(fst p)", "(snd p)", "(rec n unit a i j b one)")
	p.same("(some zero)", "a", "b", "star")
	p.same("(pi unit x unit)", "f", "(fn unit x x)", "(fn unit x a)", "(fn unit x star)")
	p.same("(sig unit n unit)", "p", "(pair unit n unit a b)", "(pair unit n unit star star)")
	p.same("(pi nat n (sig unit m (pi nat k unit)))", "(fn nat n (pair unit m (pi nat k unit) a (fn nat k (f b))))", "(fn nat n (pair unit m (pi nat k unit) star (fn nat k star)))")
}

func TestF1Numbers(t *testing.T) {
	p := at(t, "a", "nat", "b", "nat", "f", "(pi nat n nat)")
	p.apart("nat", "zero", "one", "(suc one)", "(suc (suc one))", "a", "b", "(suc a)", "(suc b)", "(suc (suc a))", "(f a)", "(f b)", "(suc (f a))", "(f (suc a))", "(f zero)", "(f (f a))")
	p.same("nat", "one", "(suc zero)", "((add zero) one)", "((add one) zero)", "(power zero)", "(rec n nat a i j one (suc one))")
	p.same("nat", "(suc (suc (suc a)))", "((add a) (suc (suc one)))", "(suc ((add (suc a)) one))")
	p.same("nat", "(f one)", "(f ((add one) zero))", "((fn (pi nat n nat) g (g (power zero))) f)")
	// What is counted from its other end is not the same.
	p.apart("nat", "((add a) b)", "((add b) a)", "((add zero) a)", "a")
	p.same("nat", "((add a) (suc b))", "(suc ((add a) b))")
	p.same("(some one)", "a", "((add a) zero)")
}

// TestF1StuckTypes: of types of which nothing is known, and of none, only what is stuck can be.
func TestF1StuckTypes(t *testing.T) {
	p := at(t, "v", "U0", "x", "v", "y", "v", "e", "empty", "d", "empty")
	p.apart("v", "x", "y", "(absurd v e)", "(absurd v d)")
	p.same("v", "x", "((fn v z z) x)", "(rec n v x i j y zero)")
	p.apart("empty", "e", "d", "(absurd empty e)", "(absurd empty d)", "(absurd empty (absurd empty e))")
	p.apart("(pi v z v)", "(fn v z z)", "(fn v z x)", "(fn v z y)", "(absurd (pi v z v) e)")
	p.same("(pi v z v)", "(absurd (pi v z v) e)", "(fn v z ((absurd (pi v z v) e) z))")
	p = at(t, "n", "nat", "x", "(some n)", "y", "(some n)")
	p.apart("(some n)", "x", "y")
	p.same("(some n)", "x", "((fn (some n) z z) x)")
	p = at(t, "e", "empty")
	p.same("(absurd U0 e)", "(absurd (absurd U0 e) e)")
	p.apart("(pi (absurd U0 e) x (absurd U0 e))", "(fn (absurd U0 e) x x)", "(fn (absurd U0 e) x (absurd (absurd U0 e) e))")
}

func TestF1Types(t *testing.T) {
	p := at(t, "v", "U0", "w", "U0", "n", "nat", "e", "empty")
	p.apartTypes("U0", "U1", "U2", "U3", "unit", "empty", "nat", "v", "w", "(some n)", "(fun n)", "(absurd U0 e)", "(absurd U1 e)",
		"(pi nat x nat)", "(pi unit x nat)", "(pi nat x unit)", "(pi nat x v)", "(pi v x nat)", "(pi v x v)", "(pi v x w)", "(pi nat x (some x))", "(pi nat x (some n))", "(pi nat x (pi nat y nat))", "(pi U0 x x)", "(pi U0 x v)", "(pi U1 x v)",
		"(sig nat x nat)", "(sig unit x nat)", "(sig nat x unit)", "(sig nat x v)", "(sig v x nat)", "(sig v x v)", "(sig nat x (some x))", "(sig nat x (some n))", "(sig U0 x x)")
	p.sameTypes("nat", "((fn U0 x x) nat)", "(some one)", "(fun zero)", "(rec k U0 v i j nat one)")
	p.sameTypes("unit", "(some zero)")
	p.sameTypes("v", "((fn U0 x x) v)", "(fst (pair U0 x x v (absurd v e)))")
	p.sameTypes("(pi nat x nat)", "(fun one)", "(pi (some one) x (some (suc x)))", "(pi nat y (fun zero))")
	p.sameTypes("(pi U0 x (pi x y x))", "(pi U0 x (pi ((fn U0 z z) x) y x))")
	p.sameTypes("(sig nat x (some x))", "(sig nat x (rec k U0 unit i j nat x))", "(sig (some one) x (some (rec k nat x i j j zero)))")
	p.sameTypes("U1", "((fn U2 x x) U1)")
}

// TestF1HeightsAsTypes: what is of TmU is held as types are, whichever height it has.
func TestF1HeightsAsTypes(t *testing.T) {
	p := at(t, "f", "(pi U0 x U0)", "g", "(pi U1 x U1)")
	for _, of := range []string{"U0", "((fn U1 x x) U0)"} {
		p.same(of, "(pi nat n nat)", "(fun one)")
		p.apart(of, "nat", "unit", "(pi nat n nat)", "(sig nat n nat)", "(f nat)", "(f unit)")
	}
	for _, of := range []string{"U1", "((fn U2 x x) U1)"} {
		p.same(of, "(pi U0 n (fun one))", "(pi ((fn U1 x x) U0) n (pi nat m nat))")
		p.apart(of, "U0", "(pi U0 n nat)", "(pi nat n U0)", "(sig U0 n n)", "(g U0)", "(g (pi U0 n n))")
	}
	p.apart("U2", "U1", "(pi U0 n U1)", "(pi U1 n U0)", "(sig U1 n n)")
	p.same("(pi U0 x U0)", "(fn U0 x (pi x y x))", "(fn U0 x (pi x y (rec k U0 x i j j zero)))")
	p.apart("(pi U0 x U0)", "f", "(fn U0 x x)", "(fn U0 x nat)", "(fn U0 x (pi x y x))", "(fn U0 x (sig x y x))", "(fn U0 x (f (f x)))")
	p.apart("(pi U1 x U1)", "g", "(fn U1 x x)", "(fn U1 x U0)", "(fn U1 x (pi U0 y x))")
}

// TestF1Context: each type stands where those ahead are, and of each that is bound it is its own that counts.
func TestF1Context(t *testing.T) {
	p := at(t, "v", "U0", "x", "v", "f", "(pi v y unit)", "g", "(pi v y v)", "k", "(pi (pi v y unit) h v)")
	p.apart("v", "x", "(g x)", "(g (g x))", "(k f)")
	p.same("v", "(k f)", "(k (fn v y star))", "(k (fn v y (f (g y))))")
	p.same("unit", "(f x)", "(f (g x))", "star")
	p = at(t, "a", "unit", "n", "nat", "b", "unit", "m", "nat")
	p.same("unit", "a", "b")
	p.apart("nat", "n", "m")
	// A type that is to be worked out, and names what is declared.
	p = at(t, "f", "((fn U0 x (pi x y x)) (some zero))", "g", "(fun one)", "p", "((fn (pi nat n U0) w (sig nat n (w n))) some)")
	p.same("(pi unit x unit)", "f", "(fn unit x x)")
	p.same("(pi nat n nat)", "g", "(fn nat n (g n))")
	p.same("nat", "(g (fst p))", "(g (fst (pair nat n unit (fst p) star)))")
	p.same("(sig nat n (some n))", "p", "(pair nat n (some n) (fst p) (snd p))")
}

// TestF1WhatIsToDo: it is no matter how much is done.
func TestF1WhatIsToDo(t *testing.T) {
	p := at(t, "a", "nat", "f", "(pi nat n nat)")
	p.same("nat", "(power (power one))", "(suc (suc ((add one) one)))", "(tower (suc (suc one)))")
	p.same("((fn U0 x (pi x y x)) nat)", "f", "(fn ((fn U0 x x) nat) n (f n))")
	p.is(true, "(fun (power one))", "add", "(fn nat n (fn nat m ((add n) m)))")
	p.is(true, "(fun (power one))", "add", "(fn nat n (add n))")
	p.is(false, "(fun (power one))", "add", "(fn nat n (fn nat m ((add m) n)))")
	p.is(true, "(pi nat n nat)", "(add a)", "(fn nat n (rec k nat a i j (suc j) n))")
	p.is(false, "(pi nat n nat)", "(add a)", "(fn nat n (rec k nat n i j (suc j) a))")
}

func TestF1NoContext(t *testing.T) {
	for _, ctx := range [][]api.Term{nil, {}} {
		for _, decls := range [][]api.Decl{nil, {}} {
			if !Same(decls, ctx, under(zero, 3), under(zero, 3), nat) || Same(decls, ctx, under(zero, 3), under(zero, 2), nat) {
				t.Error("numbers")
			}
			if !SameType(decls, ctx, nat, nat) || SameType(decls, ctx, nat, unit) {
				t.Error("types")
			}
			if !SameType(decls, ctx, api.Term{Kind: api.TmNat, Args: []api.Term{}}, nat) {
				t.Error("nil and a list without entries are the same")
			}
		}
	}
}
