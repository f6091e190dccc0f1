package eval

import (
	"math"
	"testing"

	"sortkernel/api"
	"sortkernel/step"
	"sortkernel/term"
)

// comes: the first text comes to the other one, as it does by steps, and is it only if both are one term.
func comes(t *testing.T, from, to string) {
	t.Helper()
	decls := some(t)
	x, want := read(t, from), read(t, to)
	same(t, from, Normal(decls, x, len(someBound)), want)
	same(t, to, Normal(decls, want, len(someBound)), want)
	end, _ := step.Steps(decls, x, math.MaxInt)
	same(t, from+", step by step", end, want)
	if Is(decls, x, len(someBound)) != term.Same(x, want) {
		t.Errorf("%s: Is is wrong", from)
	}
	if !Is(decls, want, len(someBound)) {
		t.Errorf("%s: it is not what it comes to", to)
	}
}

func TestE1Declared(t *testing.T) {
	comes(t, "one", "(suc zero)")
	comes(t, "two", "(suc (suc zero))")
	comes(t, "add", "(fn nat n (fn nat m (rec k nat n j i (suc i) m)))")
	comes(t, "(fn nat n (b (n two)))", "(fn nat n (b (n (suc (suc zero)))))")
	comes(t, "((add two) two)", sucs(4))
	comes(t, "(power (suc two))", sucs(8))
	comes(t, "(add b)", "(fn nat m (rec k nat b j i (suc i) m))")
	comes(t, "(fn nat c (add c))", "(fn nat c (fn nat m (rec k nat c j i (suc i) m)))")
}

func TestE1Functions(t *testing.T) {
	comes(t, "((fn nat n n) a)", "a")
	comes(t, "((fn nat n b) a)", "b")
	comes(t, "((fn nat n (n (n b))) (a b))", "((a b) ((a b) b))")
	comes(t, "((fn nat n (fn nat m (n (m a)))) b)", "(fn nat m (b (m a)))")
	comes(t, "(((fn nat n (fn nat m (n (m a)))) b) a)", "(b (a a))")
	comes(t, "((fn nat n (fn nat m (n m))) (fn nat k (k a)))", "(fn nat m (m a))")
	comes(t, "(fn nat c ((fn nat n (pi n m (n (m c)))) (c a)))", "(fn nat c (pi (c a) m ((c a) (m c))))")
	comes(t, "((fn nat n (rec k (n k) n j i (n (i (j b))) n)) a)", "(rec k (a k) a j i (a (i (j b))) a)")
	comes(t, "(fn nat n ((fn nat f (fn nat m (f (n m)))) (fn nat k (k n))))", "(fn nat n (fn nat m ((n m) n)))")
	comes(t, "(fn nat n (fn nat m ((fn nat k (fn nat n (fn nat i (k (m i))))) n)))", "(fn nat n (fn nat m (fn nat h (fn nat i (n (m i))))))")
}

// TestE1NotMore: a function of what is bound is not the function itself, nor a pair of halves the pair: these are no steps.
func TestE1NotMore(t *testing.T) {
	comes(t, "(fn nat n (a n))", "(fn nat n (a n))")
	comes(t, "(pair nat n nat (fst a) (snd a))", "(pair nat n nat (fst a) (snd a))")
	comes(t, "(fn unit n n)", "(fn unit n n)")
	comes(t, "(rec n nat zero m k (suc k) a)", "(rec n nat zero m k (suc k) a)")
	comes(t, "(absurd (pi nat n nat) a)", "(absurd (pi nat n nat) a)")
}

func TestE1Pairs(t *testing.T) {
	comes(t, "(fst (pair nat n nat a b))", "a")
	comes(t, "(snd (pair nat n nat a b))", "b")
	comes(t, "(fst (pair nat n (n a) (suc a) (fn nat m (m b))))", "(suc a)")
	comes(t, "(snd (pair nat n (n a) (suc a) (fn nat m (m b))))", "(fn nat m (m b))")
	comes(t, "(fn nat c (snd (fst (pair nat n nat (pair nat n nat a c) b))))", "(fn nat c c)")
	comes(t, "(fst ((fn nat n (pair nat k nat n one)) a))", "a")
	comes(t, "((snd (pair nat n nat zero (fn nat n (n b)))) a)", "(a b)")
	comes(t, "(pair nat n (rec k U0 unit j i nat n) two ((fn nat x x) b))", "(pair nat n (rec k U0 unit j i nat n) (suc (suc zero)) b)")
}

func TestE1Numbers(t *testing.T) {
	comes(t, "(rec n nat a m k (k (m b)) zero)", "a")
	comes(t, "(rec n nat a m k b (suc a))", "b")
	comes(t, "(rec n nat a m k m (suc (suc b)))", "(suc b)")
	comes(t, "(rec n nat a m k k (suc b))", "(rec n nat a m k k b)")
	comes(t, "(rec n (n b) a m k (k (m b)) (suc b))", "((rec n (n b) a m k (k (m b)) b) (b b))")
	comes(t, "(rec n nat a m k (fn nat i ((i k) (m b))) (suc (a b)))",
		"(fn nat i ((i (rec n nat a m k (fn nat j ((j k) (m b))) (a b))) ((a b) b)))")
	comes(t, "(fn nat c (rec n (n c) (a c) m k (fn nat i ((i c) (k m))) (suc c)))",
		"(fn nat c (fn nat i ((i c) ((rec n (n c) (a c) m k (fn nat j ((j c) (k m))) c) c))))")
	comes(t, "(rec n nat a m k (suc k) (suc (suc zero)))", "(suc (suc a))")
	comes(t, "(rec n nat zero m k ((add m) k) (suc (suc two)))", sucs(6))
	comes(t, "((rec n (pi nat b nat) (fn nat b b) m f (fn nat b (suc (f b))) two) (a b))", "(suc (suc (a b)))")
	comes(t, "(pi nat n (rec k U0 unit j i (pi nat h i) two))", "(pi nat n (pi nat m (pi nat k unit)))")
}

// TestE1Stuck: what no step is at has its arguments come to their ends, with those that are bound in them.
func TestE1Stuck(t *testing.T) {
	comes(t, "(rec n ((fn U0 c c) (n one)) one m k ((fn nat i (i (k m))) a) (b one))",
		"(rec n (n (suc zero)) (suc zero) m k (a (k m)) (b (suc zero)))")
	comes(t, "((a one) ((fn nat n n) b))", "((a (suc zero)) b)")
	comes(t, "(fst (a one))", "(fst (a (suc zero)))")
	comes(t, "(snd (a one))", "(snd (a (suc zero)))")
	comes(t, "(absurd ((fn U0 c c) nat) (fst (pair nat n nat a b)))", "(absurd nat a)")
	comes(t, "(fst (snd ((a one) b)))", "(fst (snd ((a (suc zero)) b)))")
	comes(t, "(pi one n (n one))", "(pi (suc zero) n (n (suc zero)))")
	comes(t, "(sig one n (n one))", "(sig (suc zero) n (n (suc zero)))")
	comes(t, "(fn one n (n one))", "(fn (suc zero) n (n (suc zero)))")
	comes(t, "(pair one n (n one) one one)", "(pair (suc zero) n (n (suc zero)) (suc zero) (suc zero))")
	comes(t, "(suc (a one))", "(suc (a (suc zero)))")
}

func TestE1ItselfAlready(t *testing.T) {
	for _, s := range []string{
		"a", "b", "U0", "U3", "nat", "zero", "unit", "star", "empty", "(suc a)", "(suc (suc zero))", "(a zero)", "((a zero) b)", "(a (fn nat n n))",
		"(fst a)", "(snd a)", "(fst (snd a))", "(fn nat n n)", "(fn nat n (fn nat m (n (a (m b)))))", "(pi nat n n)", "(sig nat n n)", "(absurd nat a)",
		"(rec n nat zero m k k a)", "(rec n nat zero m k k (a zero))", "(pair nat n nat a b)", "(fn empty e (absurd nat e))",
		"(rec n (rec k nat zero i j (j n) n) a m k (rec h nat m i j (j (i (k m))) k) b)",
	} {
		comes(t, s, s)
	}
}

// TestE1WithoutType: nothing is promised of these, but what steps come to is there as well.
func TestE1WithoutType(t *testing.T) {
	for _, s := range []string{
		"(zero zero)", "((pair nat n nat a b) zero)", "((pi nat n nat) zero)", "(fst (fn nat n n))", "(snd (sig nat n nat))", "(snd star)",
		"(absurd nat zero)", "(absurd zero star)", "(rec n nat zero m k k star)", "(rec n nat zero m k (suc k) (fn nat n n))", "(suc star)", "(fst zero)",
	} {
		comes(t, s, s)
	}
	comes(t, "((fn zero n (suc star)) star)", "(suc star)")
	comes(t, "((fn nat n ((fn nat m m) n)) (zero one))", "(zero (suc zero))")
}

// TestE1Within: each argument of each kind is worked out, and where it is bound in, those that are bound are kept.
func TestE1Within(t *testing.T) {
	redex := func(x api.Term) api.Term { return m(api.TmApp, m(api.TmLam, nat, v(0)), x) }
	for kind := api.TmVar; kind <= api.TmDef; kind++ {
		binds, _ := term.Binds(kind)
		for i, more := range binds {
			for n := range more + 2 {
				x, want := m(kind), m(kind)
				for range binds {
					x.Args, want.Args = append(x.Args, v(0)), append(want.Args, v(0))
				}
				x.Args[i], want.Args[i] = redex(v(n)), v(n)
				same(t, "within", Normal(nil, x, 2), want)
				if Is(nil, x, 2) || !Is(nil, want, 2) {
					t.Errorf("kind %d, argument %d: Is is wrong", kind, i)
				}
			}
		}
	}
}

// stepped is what x comes to step by step, if these are not many: of terms that are right, and made with no eye
// to types, some come to no end.
func stepped(decls []api.Decl, x api.Term) (api.Term, bool) {
	const most = 300
	end, done := step.Steps(decls, x, most)
	return end, done < most
}

// TestE1AsStepByStep: at once as step by step; what it comes to is there where more is bound ahead, too.
func TestE1AsStepByStep(t *testing.T) {
	decls, seed, ends, longest := some(t), uint32(1), 0, 0
	for round := range 20000 {
		x := made(&seed, 2+round%5, len(someBound))
		want, ok := stepped(decls, x)
		if !ok {
			continue
		}
		ends++
		got := Normal(decls, x, len(someBound))
		if !term.Same(got, want) {
			t.Fatalf("%s: %s comes, not %s", written(x), written(got), written(want))
		}
		if Is(decls, x, len(someBound)) != term.Same(x, got) || !Is(decls, got, len(someBound)) {
			t.Fatalf("%s: Is is wrong", written(x))
		}
		for last := range 3 {
			y := Normal(decls, term.Lift(x, 3, last), len(someBound)+3)
			same(t, "lifted", y, term.Lift(got, 3, last))
		}
		_, done := step.Steps(decls, x, 300)
		longest = max(longest, done)
	}
	if ends < 15000 || longest < 30 {
		t.Errorf("%d terms alone come to an end, the longest by %d steps", ends, longest)
	}
}

// TestE1PutFirstOrLast: what is put comes to the same, whether all or nothing was worked out ahead.
func TestE1PutFirstOrLast(t *testing.T) {
	decls, seed, ends := some(t), uint32(5), 0
	for round := range 10000 {
		x, y := made(&seed, 2+round%3, len(someBound)+1), made(&seed, 1+round%3, len(someBound))
		_, okX := stepped(decls, x)
		_, okY := stepped(decls, y)
		want, ok := stepped(decls, term.Put(x, y))
		if !ok || !okX || !okY {
			continue
		}
		ends++
		x1, y1 := Normal(decls, x, len(someBound)+1), Normal(decls, y, len(someBound))
		same(t, "first", Normal(decls, term.Put(x, y), len(someBound)), want)
		same(t, "last", Normal(decls, term.Put(x1, y1), len(someBound)), want)
		same(t, "by a function", Normal(decls, m(api.TmApp, m(api.TmLam, nat, x1), y), len(someBound)), want)
	}
	if ends < 8000 {
		t.Errorf("%d of them alone come to an end", ends)
	}
}

// TestE1WhicheverIsFirst: what has a type comes to the same by the last steps first, and from each place on the way.
func TestE1WhicheverIsFirst(t *testing.T) {
	decls := some(t)
	for _, s := range []string{
		"((add two) ((add two) one))",
		"(rec n nat one m k ((add k) k) two)",
		"(rec n nat zero m k ((add m) k) (suc (suc two)))",
		"((rec n (pi nat b nat) (fn nat b b) m f (fn nat b (suc (f (f b)))) two) two)",
		"(fst (pair nat n (rec k U0 unit j i nat n) ((add one) one) one))",
		"(((fn (pi nat n nat) f (fn nat n (f (f n)))) (add two)) one)",
		"(fn empty e (absurd ((fn U0 a a) nat) e))",
		"(pi nat n (rec k U0 unit j i nat ((add n) one)))",
		"(fn (sig nat n nat) p ((add (fst p)) (suc (snd p))))",
	} {
		x := read(t, s)
		want := Normal(decls, x, len(someBound))
		for is := true; is; {
			same(t, s+", on the way", Normal(decls, x, len(someBound)), want)
			if Is(decls, x, len(someBound)) != term.Same(x, want) {
				t.Errorf("%s, on the way: Is is wrong", s)
			}
			x, is = lastFirst(decls, x)
		}
		same(t, s, x, want)
	}
}

// TestE1Bound: those that are bound outside keep their numbers, however many there are.
func TestE1Bound(t *testing.T) {
	for _, bound := range []int{1, 2, api.MaxBound, 1 << 20, math.MaxInt} {
		for _, n := range []int{0, bound / 2, bound - 1} {
			call := m(api.TmApp, m(api.TmLam, nat, m(api.TmLam, v(0), m(api.TmApp, v(1), v(0)))), v(n))
			same(t, "one of those that are bound", Normal(nil, v(n), bound), v(n))
			if n < math.MaxInt-2 {
				same(t, "within", Normal(nil, call, bound), m(api.TmLam, v(n), m(api.TmApp, v(n+1), v(0))))
			}
			if !Is(nil, v(n), bound) || Is(nil, call, bound) {
				t.Error("Is is wrong")
			}
		}
	}
}

// TestE1WrongBound: of closed terms, and of others, a number that does not fit is no reason to panic, or to answer another term.
func TestE1WrongBound(t *testing.T) {
	decls := some(t)
	for _, s := range []string{"((add two) one)", "(fn nat n ((add n) (a b)))", "(rec n nat a m k (suc k) (suc (suc b)))", "(fn one n (rec n (n b) a m k (m k) n))"} {
		x := read(t, s)
		want := Normal(decls, x, len(someBound))
		for _, bound := range []int{math.MinInt, -1, 0, 1, 3, math.MaxInt} {
			same(t, s, Normal(decls, x, bound), want)
			if Is(decls, x, bound) || !Is(decls, want, bound) {
				t.Errorf("%s: Is is wrong", s)
			}
		}
	}
}

// TestE1NotAskedFor: what nothing hangs on is not worked out.
func TestE1NotAskedFor(t *testing.T) {
	decls := some(t)
	for s, want := range map[string]string{
		"((fn nat n a) " + huge + ")":                            "a",
		"(fst (pair nat n nat a " + huge + "))":                  "a",
		"(snd (pair nat n nat " + huge + " b))":                  "b",
		"((fn " + huge + " n n) a)":                              "a",
		"(rec n nat " + huge + " m k m (suc a))":                 "a",
		"(rec n nat a m k b " + huge + ")":                       "b",
		"(rec n " + huge + " a m k " + huge + " zero)":           "a",
		"(fst (snd (pair nat n nat b (pair nat n nat a two))))":  "a",
		"(rec n nat a m k (rec i nat k j h one m) " + huge + ")": "(suc zero)",
	} {
		x := read(t, s)
		same(t, s, Normal(decls, x, len(someBound)), read(t, want))
		if Is(decls, x, len(someBound)) {
			t.Errorf("%s: Is is wrong", s)
		}
	}
	if Is(decls, read(t, "(suc "+huge+")"), len(someBound)) {
		t.Error("Is is wrong of what is huge")
	}
}

// TestE1AskedForOnce: what is bound once, and used often, is worked out once, and so is what is declared.
func TestE1AskedForOnce(t *testing.T) {
	decls := some(t)
	start := read(t, "(fst (pair nat n nat zero one))")
	x := start
	for range 64 {
		x = m(api.TmApp, m(api.TmLam, nat, m(api.TmApp, m(api.TmApp, def(2), v(0)), v(0))), x)
	}
	same(t, "bound", Normal(decls, x, len(someBound)), zero)

	x = start
	for range 64 {
		decls = append(decls, api.Decl{Type: nat, Body: x})
		last := def(len(decls) - 1)
		x = m(api.TmApp, m(api.TmApp, def(2), last), last)
	}
	same(t, "declared", Normal(decls, x, len(someBound)), zero)

	twice := read(t, "(fn nat n (rec k nat zero j i ((add i) i) n))")
	same(t, "counted", Normal(decls, m(api.TmApp, twice, under(zero, 64)), 0), zero)
}

// TestE1Deep: of terms with 2^16 parts nested in one another.
func TestE1Deep(t *testing.T) {
	const deep = 1<<16 - 4
	number := under(zero, deep)
	same(t, "deep within", Normal(nil, under(m(api.TmFst, m(api.TmPair, nat, nat, v(3), zero)), deep), 4), under(v(3), deep))
	same(t, "one by one", Normal(nil, m(api.TmRec, nat, v(5), under(v(0), 1), number), 6), under(v(5), deep))
	same(t, "down to the last", Normal(nil, m(api.TmRec, nat, v(5), v(0), number), 6), v(5))
	flip := m(api.TmRec, nat, under(zero, 1), zero, v(0))
	same(t, "in turn", Normal(nil, m(api.TmRec, nat, zero, flip, number), 0), zero)

	funs, halves, calls := v(deep), v(0), zero
	for range deep {
		funs, halves = m(api.TmLam, nat, funs), m(api.TmSnd, halves)
	}
	for range deep / 2 {
		calls = m(api.TmApp, m(api.TmLam, nat, under(v(0), 1)), calls)
	}
	same(t, "functions", Normal(nil, funs, 1), funs)
	same(t, "halves", Normal(nil, halves, 1), halves)
	same(t, "calls", Normal(nil, calls, 0), under(zero, deep/2))
	for _, x := range []api.Term{number, funs, halves} {
		if !Is(nil, x, 1) {
			t.Error("Is is wrong of what is deep")
		}
	}
	if Is(nil, calls, 0) || Is(nil, under(calls, 9), 0) {
		t.Error("Is is wrong of what is deep")
	}
}

// TestE1Large: terms of a few parts come to large ones.
func TestE1Large(t *testing.T) {
	decls := some(t)
	x := m(api.TmApp, def(3), under(zero, 17))
	same(t, "a number", Normal(decls, x, 0), under(zero, 1<<17))

	tree := read(t, "(fn nat n (rec k U0 unit j i (sig i h i) n))")
	got := Normal(nil, m(api.TmApp, tree, under(zero, 15)), 0)
	if term.Size(got) != 1<<16-1 {
		t.Errorf("%d terms are in what comes", term.Size(got))
	}
}

// TestE1NoDeclarations: nil and a list without entries are the same.
func TestE1NoDeclarations(t *testing.T) {
	x := api.Term{Kind: api.TmRec, Args: []api.Term{nat, v(1), v(0), {Kind: api.TmZero, Args: []api.Term{}}}}
	for _, decls := range [][]api.Decl{nil, {}} {
		same(t, "Normal", Normal(decls, x, 2), v(1))
		if Is(decls, x, 2) || !Is(decls, api.Term{Kind: api.TmZero, Args: []api.Term{}}, 0) {
			t.Error("Is is wrong")
		}
	}
}

// TestE1Wrong: terms that are not right come to something, and do not panic.
func TestE1Wrong(t *testing.T) {
	decls := some(t)
	lam := m(api.TmLam, nat, v(0))
	for _, x := range []api.Term{
		{}, none, {Kind: -1}, {Kind: 19, Args: []api.Term{nat}}, {Kind: math.MaxInt}, {Kind: math.MinInt},
		def(-1), def(len(decls)), def(math.MinInt), def(math.MaxInt), v(-1), v(math.MinInt), v(math.MaxInt),
		m(api.TmApp), m(api.TmApp, lam), m(api.TmApp, lam, nat, nat), m(api.TmApp, m(api.TmLam), nat), m(api.TmApp, m(api.TmLam, nat), nat),
		m(api.TmFst), m(api.TmSnd), m(api.TmFst, m(api.TmPair)), m(api.TmSnd, m(api.TmPair, nat, nat, nat)), m(api.TmFst, m(api.TmPair, nat, nat)),
		m(api.TmRec), m(api.TmRec, zero, zero, zero), m(api.TmRec, nat, nat, nat, m(api.TmSuc)), m(api.TmRec, nat, nat, nat, m(api.TmZero, nat)),
		m(api.TmRec, nat, nat, nat, m(api.TmSuc, nat, nat)), m(api.TmSuc, none, none), m(api.TmLam, nat, v(0), v(0)),
	} {
		same(t, "Normal", Normal(decls, x, 1), x)
		if !Is(decls, x, 1) {
			t.Errorf("%v is not what it comes to", x)
		}
	}
	same(t, "Normal", Normal(decls, m(0, nat, m(api.TmApp, lam, zero)), 1), m(0, nat, zero))
}

// TestE1OnlyReads: what is handed in stays, with its spare room, whatever becomes of the answer, and the answer stays
// whatever becomes of what was handed in.
func TestE1OnlyReads(t *testing.T) {
	declared := func() []api.Decl {
		decls := some(t)
		for i := range decls {
			decls[i].Type, decls[i].Body = roomy(decls[i].Type), roomy(decls[i].Body)
		}
		return decls
	}
	for _, s := range []string{
		"(fn nat n (a n))", "add", "(suc (add b))", "((fn nat n (n (suc n))) (suc a))", "((fn nat n (suc b)) a)",
		"(fst (pair nat n nat (suc a) (suc b)))", "((suc a) (snd (pair nat n nat a (suc b))))",
		"(rec n nat (suc a) m k k zero)", "(rec n (suc n) (suc a) m k ((k (suc m)) (k m)) (suc (suc b)))",
	} {
		decls, x := declared(), roomy(read(t, s))
		Is(decls, x, len(someBound))
		got := Normal(decls, x, len(someBound))
		spoil(got)
		if !sameRoom(x, roomy(read(t, s))) {
			t.Errorf("%s is changed, or changes with the answer", s)
		}
		for i, d := range declared() {
			if decls[i].Name != d.Name || !sameRoom(decls[i].Type, d.Type) || !sameRoom(decls[i].Body, d.Body) {
				t.Errorf("%s: a declaration is changed, or changes with the answer", s)
			}
		}
		got = Normal(decls, x, len(someBound))
		want := term.Copy(got)
		spoil(x)
		for _, d := range decls {
			spoil(d.Body)
		}
		same(t, "once what was handed in is changed", got, want)
	}
}

// TestE1PartsOfAnAnswerShareNothing: what is worked out once, and told at two places, is there twice.
func TestE1PartsOfAnAnswerShareNothing(t *testing.T) {
	decls := some(t)
	for _, s := range []string{
		"((fn nat n (n n)) (suc a))", "(rec n nat zero m k (k k) (suc (suc b)))", "(rec n nat zero m k (m m) (suc (suc b)))",
		"((fn nat n (n n)) (snd (pair nat n nat a (suc b))))", "(add add)", "(two (two (add two)))",
		"(a (rec n (n one) (suc two) m k (fn nat i (k (m i))) (suc (suc b))))",
	} {
		many := map[*api.Term]int{}
		lists(Normal(decls, read(t, s), len(someBound)), many)
		for _, n := range many {
			if n > 1 {
				t.Errorf("%s: a list is at %d places", s, n)
			}
		}
	}
}

// TestExample5 is the document's fifth example, at once.
func TestExample5(t *testing.T) {
	comes(t, "((fn nat n (suc (a n))) zero)", "(suc (a zero))")
}
