package step

import (
	"math"
	"testing"

	"sortkernel/api"
	"sortkernel/term"
)

// chain: the first text is the next one behind a step, and so on; behind the last one there is none.
func chain(t *testing.T, texts ...string) {
	t.Helper()
	decls := some(t)
	for i, s := range texts {
		x := read(t, s)
		last := i+1 == len(texts)
		want := x
		if !last {
			want = read(t, texts[i+1])
		}
		got, ok := Step(decls, x)
		if ok == last || !term.Same(got, want) {
			t.Errorf("%s: %s comes, %v", s, written(got), ok)
		}
	}
	chainAtOnce(t, decls, texts)
}

// chainAtOnce: Steps does as many of them as it may.
func chainAtOnce(t *testing.T, decls []api.Decl, texts []string) {
	t.Helper()
	x, all := read(t, texts[0]), len(texts)-1
	for _, most := range []int{math.MinInt, -1, 0, 1, 2, 3, 4, 5, all - 1, all, all + 1, math.MaxInt} {
		want := min(max(most, 0), all)
		got, done := Steps(decls, x, most)
		if done != want || !term.Same(got, read(t, texts[want])) {
			t.Errorf("%d steps of %s: %s comes, %d", most, texts[0], written(got), done)
		}
	}
}

func TestD1Declared(t *testing.T) {
	chain(t, "one", "(suc zero)")
	chain(t, "two", "(suc one)", "(suc (suc zero))")
	chain(t, "add", "(fn nat n (fn nat m (rec k nat n j i (suc i) m)))")
	chain(t, "(fn nat n (b (n two)))", "(fn nat n (b (n (suc one))))", "(fn nat n (b (n (suc (suc zero)))))")
}

func TestD1Functions(t *testing.T) {
	chain(t, "((fn nat n n) a)", "a")
	chain(t, "((fn nat n b) a)", "b")
	chain(t, "((fn nat n (n (n b))) (a b))", "((a b) ((a b) b))")
	chain(t, "((fn nat n (fn nat m (n (m a)))) b)", "(fn nat m (b (m a)))")
	chain(t, "((fn nat n (fn nat m (n m))) (fn nat k (k a)))", "(fn nat m ((fn nat k (k a)) m))", "(fn nat m (m a))")
	chain(t, "(fn nat c ((fn nat n (pi n m (n (m c)))) (c a)))", "(fn nat c (pi (c a) m ((c a) (m c))))")
	chain(t, "((fn nat n (rec k (n k) n j i (n (i (j b))) n)) a)", "(rec k (a k) a j i (a (i (j b))) a)")
	chain(t, "((fn zero n (suc star)) star)", "(suc star)")
}

func TestD1Pairs(t *testing.T) {
	chain(t, "(fst (pair nat n nat a b))", "a")
	chain(t, "(snd (pair nat n nat a b))", "b")
	chain(t, "(fst (pair nat n (n a) (suc a) (fn nat m (m b))))", "(suc a)")
	chain(t, "(snd (pair nat n (n a) (suc a) (fn nat m (m b))))", "(fn nat m (m b))")
	chain(t, "(fn nat c (snd (fst (pair nat n nat (pair nat n nat a c) b))))", "(fn nat c (snd (pair nat n nat a c)))", "(fn nat c c)")
}

func TestD1Numbers(t *testing.T) {
	chain(t, "(rec n nat a m k (k (m b)) zero)", "a")
	chain(t, "(rec n nat a m k b (suc a))", "b")
	chain(t, "(rec n nat a m k m (suc (suc b)))", "(suc b)")
	chain(t, "(rec n nat a m k k (suc b))", "(rec n nat a m k k b)")
	chain(t, "(rec n (n b) a m k (k (m b)) (suc b))", "((rec n (n b) a m k (k (m b)) b) (b b))")
	chain(t, "(rec n nat a m k (fn nat i ((i k) (m b))) (suc (a b)))",
		"(fn nat i ((i (rec n nat a m k (fn nat j ((j k) (m b))) (a b))) ((a b) b)))")
	chain(t, "(fn nat c (rec n (n c) (a c) m k (fn nat i ((i c) (k m))) (suc c)))",
		"(fn nat c (fn nat i ((i c) ((rec n (n c) (a c) m k (fn nat j ((j c) (k m))) c) c))))")
	chain(t, "(rec n nat a m k (suc k) (suc (suc zero)))",
		"(suc (rec n nat a m k (suc k) (suc zero)))", "(suc (suc (rec n nat a m k (suc k) zero)))", "(suc (suc a))")
}

func TestD1NoStep(t *testing.T) {
	for _, s := range []string{
		"a", "U0", "U3", "nat", "zero", "unit", "star", "empty", "(suc a)", "(suc (suc zero))",
		"(a zero)", "(zero zero)", "((pair nat n nat a b) zero)", "((pi nat n nat) zero)", "((a zero) zero)", "(a (fn nat n n))",
		"(fst a)", "(snd a)", "(fst (fn nat n n))", "(snd (sig nat n nat))", "(fst (snd a))", "(snd star)",
		"(fn nat n (a n))", "(pair nat n nat (fst a) (snd a))", "(fn nat n n)", "(pi nat n n)", "(sig nat n n)",
		"(absurd nat a)", "(absurd nat zero)", "(absurd nat star)",
		"(rec n nat zero m k k a)", "(rec n nat zero m k k star)", "(rec n nat zero m k k (a zero))", "(rec n nat zero m k (suc k) (fn nat n n))",
	} {
		chain(t, s)
	}
}

// TestD1ItselfFirst: arguments wait where there is a step at the term itself.
func TestD1ItselfFirst(t *testing.T) {
	chain(t, "((fn one n b) one)", "b")
	chain(t, "((fn one n (n n)) two)", "(two two)", "((suc one) two)", "((suc (suc zero)) two)", "((suc (suc zero)) (suc one))", "((suc (suc zero)) (suc (suc zero)))")
	chain(t, "((fn nat n one) two)", "one", "(suc zero)")
	chain(t, "(fst (pair one n one a one))", "a")
	chain(t, "(snd (pair one n one one b))", "b")
	chain(t, "(rec n one a m k one zero)", "a")
	chain(t, "(rec n one one m k b (suc one))", "b")
	chain(t, "(suc ((fn one n n) a))", "(suc a)")
}

// TestD1FirstArgument: each argument in turn, where there is none at the term itself, or none yet.
func TestD1FirstArgument(t *testing.T) {
	chain(t, "(pi one n one)", "(pi (suc zero) n one)", "(pi (suc zero) n (suc zero))")
	chain(t, "(sig one n one)", "(sig (suc zero) n one)", "(sig (suc zero) n (suc zero))")
	chain(t, "(fn one n one)", "(fn (suc zero) n one)", "(fn (suc zero) n (suc zero))")
	chain(t, "(one one)", "((suc zero) one)", "((suc zero) (suc zero))")
	chain(t, "(absurd one one)", "(absurd (suc zero) one)", "(absurd (suc zero) (suc zero))")
	chain(t, "(pair one n one one one)", "(pair (suc zero) n one one one)", "(pair (suc zero) n (suc zero) one one)",
		"(pair (suc zero) n (suc zero) (suc zero) one)", "(pair (suc zero) n (suc zero) (suc zero) (suc zero))")
	chain(t, "(rec n one one m k one (a one))", "(rec n (suc zero) one m k one (a one))", "(rec n (suc zero) (suc zero) m k one (a one))",
		"(rec n (suc zero) (suc zero) m k (suc zero) (a one))", "(rec n (suc zero) (suc zero) m k (suc zero) (a (suc zero)))")
	chain(t, "((a ((fn nat n n) one)) ((fn nat n n) b))", "((a one) ((fn nat n n) b))", "((a (suc zero)) ((fn nat n n) b))", "((a (suc zero)) b)")
	chain(t, "(fst one)", "(fst (suc zero))")
	chain(t, "(snd one)", "(snd (suc zero))")
	chain(t, "(suc one)", "(suc (suc zero))")
}

// TestD1ItselfBehindAnArgument: a step within makes one around it, which comes ahead of what is left within.
func TestD1ItselfBehindAnArgument(t *testing.T) {
	chain(t, "(((fn nat n (fn one k (k n))) one) a)", "((fn one k (k one)) a)", "(a one)", "(a (suc zero))")
	chain(t, "(fst ((fn nat n (pair one k one n one)) a))", "(fst (pair one k one a one))", "a")
	chain(t, "(snd (fst (pair nat n nat (pair one k one one b) one)))", "(snd (pair one k one one b))", "b")
	chain(t, "(rec n nat a m k (b m) two)", "(rec n nat a m k (b m) (suc one))", "(b one)", "(b (suc zero))")
	chain(t, "(rec n one a m k b (fst (pair nat k nat zero one)))", "(rec n (suc zero) a m k b (fst (pair nat k nat zero one)))", "(rec n (suc zero) a m k b zero)", "a")
	chain(t, "((fst (snd (pair nat n nat one (pair one k one (fn one i b) one)))) one)",
		"((fst (pair one k one (fn one i b) one)) one)", "((fn one i b) one)", "b")
	chain(t, "(fn nat n ((add n) one))",
		"(fn nat n (((fn nat n (fn nat m (rec k nat n j i (suc i) m))) n) one))",
		"(fn nat n ((fn nat m (rec k nat n j i (suc i) m)) one))",
		"(fn nat n (rec k nat n j i (suc i) one))",
		"(fn nat n (rec k nat n j i (suc i) (suc zero)))",
		"(fn nat n (suc (rec k nat n j i (suc i) zero)))",
		"(fn nat n (suc n))")
}

func TestD1StepsThatDoNotEnd(t *testing.T) {
	x := read(t, "((fn nat n (n n)) (fn nat n (n n)))")
	for _, most := range []int{0, 1, 7, 100000} {
		got, done := Steps(nil, x, most)
		if done != most {
			t.Errorf("%d steps, not %d", done, most)
		}
		same(t, "what becomes itself", got, x)
	}
	if _, ok := Step(nil, x); !ok {
		t.Error("a step from itself to itself is none")
	}
}

// TestD1AsStepByStep: of terms of all kinds, Steps does what Step does so many times, and each one is the first that there is.
func TestD1AsStepByStep(t *testing.T) {
	decls, seed, most := some(t), uint32(1), 0
	for round := range 20000 {
		x := made(&seed, 2+round%4, len(someBound))
		y, done, is := x, 0, true
		for n := range 9 {
			got, did := Steps(decls, x, n)
			if did != done || !term.Same(got, y) {
				t.Fatalf("%d steps of %v: %v comes, %d, not %v, %d", n, x, got, did, y, done)
			}
			one, ok := Step(decls, y)
			if y, is = behindOne(decls, y, false); is {
				done++
			}
			if ok != is || !term.Same(one, y) {
				t.Fatalf("Step: %v, %v comes, not %v, %v", one, ok, y, is)
			}
		}
		most = max(most, done)
	}
	if most < 9 {
		t.Errorf("no more than %d steps are in any of them", most)
	}
}

// TestD1Elsewhere: steps are the same ones where more is bound ahead.
func TestD1Elsewhere(t *testing.T) {
	decls, seed := some(t), uint32(7)
	for range 5000 {
		x := made(&seed, 4, len(someBound))
		for last := range 3 {
			y, n := Steps(decls, x, 3)
			z, k := Steps(decls, term.Lift(x, 2, last), 3)
			if n != k || !term.Same(term.Lift(y, 2, last), z) {
				t.Fatalf("%v, lifted but for %d: %v comes, %d", x, last, z, k)
			}
		}
	}
}

// TestD1WhicheverIsFirst: what has a type comes to the same end, the first steps done first, or the last ones.
func TestD1WhicheverIsFirst(t *testing.T) {
	decls := some(t)
	for _, s := range []string{
		"((add two) ((add two) one))",
		"(rec n nat one m k ((add k) k) two)",
		"(rec n nat zero m k ((add m) k) (suc (suc two)))",
		"((rec n (pi nat b nat) (fn nat b b) m f (fn nat b (suc (f (f b)))) two) two)",
		"(fst (pair nat n (rec k U0 unit j i nat n) ((add one) one) one))",
		"(((fn (pi nat n nat) f (fn nat n (f (f n)))) (add two)) one)",
		"(fn empty e (absurd ((fn U0 a a) nat) e))",
		"(pi nat n (rec k U0 unit j i nat ((add n) one)))",
	} {
		x := read(t, s)
		got, _ := Steps(decls, x, math.MaxInt)
		if _, more := behindOne(decls, got, false); more {
			t.Errorf("%s: %v is not its end", s, got)
		}
		for is := true; is; {
			x, is = behindOne(decls, x, true)
		}
		same(t, s, got, x)
	}
}

// TestD1MoreThanIsRight: of terms of any size, with 2^16 parts nested in one another.
func TestD1MoreThanIsRight(t *testing.T) {
	const deep = 1<<16 - 4
	got, done := Steps(nil, under(m(api.TmFst, m(api.TmPair, nat, nat, v(3), zero)), deep), math.MaxInt)
	if done != 1 {
		t.Errorf("%d steps", done)
	}
	same(t, "deep within", got, under(v(3), deep))

	got, done = Steps(nil, m(api.TmRec, nat, zero, under(v(0), 2), under(zero, 1000)), math.MaxInt)
	if done != 1001 {
		t.Errorf("%d steps", done)
	}
	same(t, "twice", got, under(zero, 2000))
}

// TestD1ManySteps: to 2 to the 12th, by doubling: steps are many, and most of them deep within.
func TestD1ManySteps(t *testing.T) {
	twice := m(api.TmRec, nat, zero, under(v(0), 2), v(0))
	got, done := Steps(nil, m(api.TmRec, nat, under(zero, 1), twice, under(zero, 12)), math.MaxInt)
	if done < 1<<12 {
		t.Errorf("%d steps", done)
	}
	same(t, "doubled", got, under(zero, 1<<12))
}

// TestD1NoDeclarations: nil and a list without entries are the same.
func TestD1NoDeclarations(t *testing.T) {
	x := api.Term{Kind: api.TmApp, Args: []api.Term{m(api.TmLam, nat, v(0)), {Kind: api.TmZero, Args: []api.Term{}}}}
	for _, decls := range [][]api.Decl{nil, {}} {
		got, ok := Step(decls, x)
		if !ok {
			t.Error("there is no step")
		}
		same(t, "Step", got, zero)
	}
	got, ok := Step(nil, m(api.TmRec, nat, v(1), v(0), api.Term{Kind: api.TmZero, Args: []api.Term{}}))
	if !ok {
		t.Error("there is no step")
	}
	same(t, "Step", got, v(1))
}

// TestD1Wrong: terms that are not right have no step where they are not, and do not panic.
func TestD1Wrong(t *testing.T) {
	decls := some(t)
	lam := m(api.TmLam, nat, v(0))
	for _, x := range []api.Term{
		{}, none, {Kind: -1}, {Kind: 19, Args: []api.Term{nat}}, {Kind: math.MaxInt}, {Kind: math.MinInt},
		def(-1), def(len(decls)), def(math.MinInt), def(math.MaxInt), v(-1), v(math.MinInt), v(math.MaxInt),
		m(api.TmApp), m(api.TmApp, lam), m(api.TmApp, lam, nat, nat), m(api.TmApp, m(api.TmLam), nat), m(api.TmApp, m(api.TmLam, nat), nat),
		m(api.TmFst), m(api.TmSnd), m(api.TmFst, m(api.TmPair)), m(api.TmSnd, m(api.TmPair, nat, nat, nat)), m(api.TmFst, m(api.TmPair, nat, nat)),
		m(api.TmRec), m(api.TmRec, zero, zero, zero), m(api.TmRec, nat, nat, nat, m(api.TmSuc)), m(api.TmRec, nat, nat, nat, m(api.TmZero, nat)),
		m(api.TmRec, nat, nat, nat, m(api.TmSuc, nat, nat)), m(api.TmVar, nat), m(api.TmSuc, none, none),
	} {
		got, ok := Step(decls, x)
		if ok {
			t.Errorf("%v has a step", x)
		}
		same(t, "Step", got, x)
		got, done := Steps(decls, x, 5)
		if done != 0 {
			t.Errorf("%v has %d steps", x, done)
		}
		same(t, "Steps", got, x)
	}
	got, ok := Step(decls, m(0, nat, m(api.TmApp, lam, zero)))
	if !ok {
		t.Error("there is no step within a term of no kind")
	}
	same(t, "Step", got, m(0, nat, zero))
}

// TestAny: there is a step where Step does one, and it is only looked for.
func TestAny(t *testing.T) {
	decls, seed, with := some(t), uint32(3), 0
	for round := range 20000 {
		x := made(&seed, 1+round%4, len(someBound))
		_, want := behindOne(decls, x, false)
		if want {
			with++
		}
		if Any(decls, x) != want {
			t.Fatalf("Any of %v is %v", x, !want)
		}
	}
	if with < 2000 || with > 18000 {
		t.Errorf("%d of them have a step", with)
	}
	for _, x := range []api.Term{{}, none, def(-1), def(len(decls)), m(api.TmApp), m(api.TmFst, m(api.TmPair)), m(api.TmRec, nat, nat, nat, m(api.TmSuc))} {
		if Any(decls, x) {
			t.Errorf("%v has a step", x)
		}
	}
	x, deep := roomy(read(t, "(fn nat n (suc ((fn nat m m) n)))")), under(m(api.TmFst, m(api.TmPair, nat, nat, nat, nat)), 1<<16-4)
	if !Any(nil, x) || !sameRoom(x, roomy(read(t, "(fn nat n (suc ((fn nat m m) n)))"))) {
		t.Error("Any does not only look")
	}
	if !Any(nil, deep) || Any(nil, under(zero, 1<<16-1)) {
		t.Error("Any fails of what is deep")
	}
}

// memory are terms of which one step, or none, leaves parts as they are.
func memory(t *testing.T) []api.Term {
	var out []api.Term
	for _, s := range []string{
		"(fn nat n (a n))", "add", "(suc (add b))", "((fn nat n (n (suc n))) (suc a))", "((fn nat n (suc b)) a)",
		"(fst (pair nat n nat (suc a) (suc b)))", "((suc a) (snd (pair nat n nat a (suc b))))",
		"(rec n nat (suc a) m k k zero)", "(rec n (suc n) (suc a) m k ((k (suc m)) (k m)) (suc (suc b)))",
	} {
		out = append(out, roomy(read(t, s)))
	}
	return out
}

// TestD1OnlyReads: what is handed in stays, with its spare room, whatever becomes of the answer, and the answer stays
// whatever becomes of what was handed in.
func TestD1OnlyReads(t *testing.T) {
	declared := func() []api.Decl {
		decls := some(t)
		for i := range decls {
			decls[i].Type, decls[i].Body = roomy(decls[i].Type), roomy(decls[i].Body)
		}
		return decls
	}
	for _, most := range []int{0, 1, 2, 9} {
		for i, x := range memory(t) {
			decls, fresh := declared(), memory(t)[i]
			got, _ := Steps(decls, x, most)
			spoil(got)
			if !sameRoom(x, fresh) {
				t.Errorf("%v is changed, or changes with the answer", fresh)
			}
			for j, d := range declared() {
				if decls[j].Name != d.Name || !sameRoom(decls[j].Type, d.Type) || !sameRoom(decls[j].Body, d.Body) {
					t.Errorf("%v: a declaration is changed, or changes with the answer", fresh)
				}
			}
			got, _ = Steps(decls, x, most)
			want := term.Copy(got)
			spoil(x)
			for _, d := range decls {
				spoil(d.Body)
			}
			same(t, "once what was handed in is changed", got, want)
		}
	}
}

// TestD1PartsOfAnAnswerShareNothing: what is put at two places is there twice.
func TestD1PartsOfAnAnswerShareNothing(t *testing.T) {
	for _, s := range []string{
		"((fn nat n (n n)) (suc a))", "(rec n nat zero m k (k k) (suc (suc b)))", "(rec n nat zero m k (m m) (suc (suc b)))",
		"((fn nat n (n n)) (snd (pair nat n nat a (suc b))))",
	} {
		got, _ := Step(nil, read(t, s))
		other := term.Copy(got.Args[1])
		spoil(got.Args[0])
		same(t, s, got.Args[1], other)
	}
	got, _ := Steps(some(t), read(t, "(add add)"), 2)
	other := term.Copy(got.Args[1])
	spoil(got.Args[0])
	same(t, "a declaration, twice", got.Args[1], other)
}

// TestExample4 is the document's fourth example: one step.
func TestExample4(t *testing.T) {
	chain(t, "((fn nat n (suc n)) zero)", "(suc zero)")
}

// TestExample5 is its fifth one, step by step.
func TestExample5(t *testing.T) {
	chain(t, "((fn nat n (suc (a n))) zero)", "(suc (a zero))")
}
