package conv

import "testing"

func TestF2Bound(t *testing.T) {
	p := at(t, "a", "nat", "b", "nat", "c", "nat")
	p.apart("nat", "a", "b", "c")
	p.apart("(pi nat n (pi nat m nat))", "(fn nat n (fn nat m n))", "(fn nat n (fn nat m m))", "(fn nat n (fn nat m a))", "(fn nat n (fn nat m b))", "(fn nat n (fn nat m c))")
	p = at(t, "v", "U0", "w", "U0", "x", "U1")
	p.apartTypes("v", "w", "x")
}

func TestF2Functions(t *testing.T) {
	p := at(t, "f", "(pi nat n (pi nat m nat))", "g", "(pi nat n (pi nat m nat))", "a", "nat", "b", "nat")
	p.apart("nat", "((f a) b)", "((f b) a)", "((f a) a)", "((g a) b)", "((g b) b)", "((f ((f a) b)) b)", "((f a) ((f a) b))")
	p.same("nat", "((f a) b)", "((f ((fn nat n n) a)) ((fn nat n n) b))", "((fn nat n ((f n) b)) a)")
	// What a function is of is held by the type that the function says.
	p = at(t, "f", "(pi unit x nat)", "g", "(pi (pi nat n unit) x nat)", "h", "(pi (pi nat n nat) x nat)", "k", "(pi nat n nat)", "u", "unit")
	p.same("nat", "(f u)", "(f star)")
	p.same("nat", "(g (fn nat n u))", "(g (fn nat n star))")
	p.same("nat", "(h k)", "(h (fn nat n (k n)))")
	p.apart("nat", "(f u)", "(g (fn nat n u))", "(h k)", "(h (fn nat n n))", "(h (fn nat n zero))", "(k zero)")
	p = at(t, "f", "(pi U0 x nat)")
	p.same("nat", "(f (pi nat n nat))", "(f (fun one))")
	p.apart("nat", "(f nat)", "(f unit)", "(f empty)", "(f (pi nat n nat))", "(f (pi nat n unit))")
	p = at(t, "f", "(pi (sig nat n unit) x nat)", "p", "(sig nat n unit)", "q", "(sig nat n unit)")
	p.same("nat", "(f p)", "(f (pair nat n unit (fst p) star))", "(f (pair nat n unit (fst p) (snd q)))")
	p.apart("nat", "(f p)", "(f q)", "(f (pair nat n unit zero star))")
}

// TestF2FunctionsOfTheirOwn: what comes behind hangs on what came ahead, as a has it.
func TestF2FunctionsOfTheirOwn(t *testing.T) {
	p := at(t, "f", "(pi nat n (pi (some n) x nat))", "a", "unit", "b", "unit", "c", "nat", "d", "nat")
	p.same("nat", "((f zero) a)", "((f zero) b)", "((f zero) star)")
	p.apart("nat", "((f zero) a)", "((f one) c)", "((f one) d)", "((f (suc one)) c)", "((f (suc one)) d)", "((f one) zero)", "((f one) one)")
	p.is(false, "nat", "((f zero) a)", "((f one) zero)")
	p.is(false, "nat", "((f one) zero)", "((f zero) a)")
	p = at(t, "f", "(pi U0 v (pi v x v))", "v", "U0", "x", "v", "y", "v")
	p.apart("v", "x", "y", "((f v) x)", "((f v) y)", "((f v) ((f v) x))")
	p.same("v", "((f v) x)", "((f ((fn U0 z z) v)) ((fn v z z) x))")
	p.same("nat", "(((f (pi unit z nat)) (fn unit z zero)) star)", "(((f (pi unit z nat)) (fn unit w (rec k nat zero i j j zero))) ((f unit) star))")
	p.is(true, "unit", "((f unit) star)", "star")
	// Of more numbers than the type shows, before it is worked out.
	p = at(t, "f", "(pi nat n (fun n))", "a", "nat", "b", "nat")
	p.apart("nat", "(f zero)", "((f one) a)", "((f one) b)", "(((f (suc one)) a) b)", "(((f (suc one)) b) a)")
	p.same("nat", "(((f (suc one)) a) b)", "(((f (power one)) ((add a) zero)) b)")
}

func TestF2Pairs(t *testing.T) {
	p := at(t, "p", "(sig nat n nat)", "q", "(sig nat n nat)", "r", "(sig (sig nat n nat) x nat)", "f", "(pi nat n (sig nat n nat))")
	p.apart("nat", "(fst p)", "(snd p)", "(fst q)", "(snd q)", "(fst (fst r))", "(snd (fst r))", "(snd r)", "(fst (f zero))", "(snd (f zero))", "(fst (f one))")
	p.same("nat", "(fst (f one))", "(fst (f (suc zero)))")
	p.same("nat", "(fst (fst r))", "(fst (pair nat n nat (fst (fst r)) zero))")
	// The types of halves: what they are of is held by these.
	p = at(t, "p", "(sig (pi unit x nat) f (pi unit y nat))", "u", "unit")
	p.same("nat", "((fst p) u)", "((fst p) star)")
	p.same("nat", "((snd p) u)", "((snd p) star)")
	p.apart("nat", "((fst p) u)", "((snd p) u)")
	p = at(t, "p", "(sig nat n (pi (some n) x nat))", "q", "(sig U0 v (pi v x v))")
	p.same("(pi (some (fst p)) x nat)", "(snd p)", "(fn (some (fst p)) x ((snd p) x))")
	p.same("(pi (fst q) x (fst q))", "(snd q)", "(fn (fst q) x ((snd q) x))")
	p.apart("(pi (fst q) x (fst q))", "(snd q)", "(fn (fst q) x x)", "(fn (fst q) x ((snd q) ((snd q) x)))")
	// The second half's type hangs on the first half of this pair, which is stuck, and known by what it is of alone.
	p = at(t, "f", "(pi nat n (sig (some n) x (pi (some n) y nat)))", "u", "unit")
	p.same("nat", "((snd (f zero)) u)", "((snd (f zero)) star)", "((snd (f zero)) (fst (f zero)))")
	p.apart("nat", "((snd (f one)) zero)", "((snd (f one)) one)", "((snd (f one)) (fst (f one)))", "(fst (f one))")
}

func TestF2Absurd(t *testing.T) {
	p := at(t, "e", "empty", "d", "empty", "f", "(pi nat n empty)", "u", "unit")
	p.apart("nat", "(absurd nat e)", "(absurd nat d)", "(absurd nat (f zero))", "(absurd nat (f one))", "(absurd nat (absurd empty e))")
	p.same("nat", "(absurd nat e)", "(absurd (some one) e)", "(absurd nat ((fn empty x x) e))")
	p.same("nat", "(absurd nat (f one))", "(absurd nat (f (suc zero)))")
	// One of another type, that is made one of this type: what it is of tells that type.
	p.apart("nat", "((absurd (pi nat n nat) e) zero)", "((absurd (pi nat n nat) e) one)", "((absurd (pi nat n nat) d) zero)", "((absurd (pi unit n nat) e) star)", "(fst (absurd (sig nat n nat) e))", "(fst (absurd (sig nat n unit) e))", "(snd (absurd (sig nat n nat) e))", "(snd (absurd (sig unit n nat) e))")
	p.same("nat", "((absurd (pi unit n nat) e) u)", "((absurd (pi unit n nat) e) star)")
	p.same("nat", "((absurd (pi (some zero) n nat) e) u)", "((absurd (pi unit n nat) e) star)")
	p.same("nat", "(fst (absurd (sig nat n nat) e))", "(fst (absurd (sig nat n (some one)) e))")
	p.apartTypes("(absurd U0 e)", "(absurd U0 d)", "(absurd U1 e)", "((absurd (pi nat n U0) e) zero)", "((absurd (pi nat n U0) e) one)")
}

func TestF2Counted(t *testing.T) {
	p := at(t, "a", "nat", "b", "nat", "f", "(pi nat n nat)")
	p.apart("nat", "(rec n nat a i j j b)", "(rec n nat b i j j b)", "(rec n nat a i j i b)", "(rec n nat a i j (suc i) b)", "(rec n nat a i j (suc j) b)", "(rec n nat a i j a b)", "(rec n nat a i j b b)", "(rec n nat a i j (f j) b)", "(rec n nat a i j (f i) b)",
		"(rec n nat a i j j a)", "(rec n nat a i j j (f b))", "(rec n nat zero i j j b)", "(rec n nat one i j j b)", "(suc (rec n nat a i j j b))", "a", "b")
	p.same("nat", "(rec n nat a i j (f j) b)", "(rec n nat ((add a) zero) i j ((fn nat k (f k)) j) ((fn nat k k) b))", "(rec n (some one) a i j (f j) b)", "(rec n (some (suc n)) a i j (f j) b)")
	p.same("nat", "(rec n nat a i j (f j) (suc b))", "(f (rec n nat a i j (f j) b))")
	// The number must be stuck alike, and not only the same.
	p.apart("nat", "(rec n nat a i j j (rec n nat a i j j b))", "(rec n nat a i j j (rec n nat a i j i b))", "(rec n nat a i j j b)")
	p.apartTypes("(rec n U0 nat i j unit a)", "(rec n U0 unit i j nat a)", "(rec n U0 nat i j nat a)", "(rec n U0 nat i j j a)", "(rec n U0 nat i j unit b)", "(rec n U0 nat i j (pi nat h j) a)", "(rec n U0 nat i j (pi j h j) a)", "(rec n U1 U0 i j j a)")
}

// TestF2CountedOfTheirOwn: types hang on the number: that of z on none, that of s on one more, and what came of it.
func TestF2CountedOfTheirOwn(t *testing.T) {
	p := at(t, "a", "nat", "u", "unit", "w", "unit")
	p.same("(some a)", "(rec n (some n) u i j i a)", "(rec n (some n) star i j i a)", "(rec n (some n) w i j i a)")
	p.apart("(some a)", "(rec n (some n) u i j i a)", "(rec n (some n) u i j zero a)", "(rec n (some n) u i j (suc i) a)")
	p.same("unit", "(rec n unit u i j j a)", "(rec n unit w i j star a)")
	p.same("(pi unit x unit)", "(rec n (pi unit x unit) (fn unit x u) i j j a)", "(fn unit x w)")
	// Of nothing: what came of a number is of its type, and stuck.
	p = at(t, "a", "nat", "f", "(pi unit x nat)", "u", "unit")
	p.same("nat", "((rec n (pi unit x nat) f i j j a) u)", "((rec n (pi unit x nat) f i j j a) star)")
	p.same("nat", "((rec n (pi unit x nat) f i j (fn unit x (suc (j x))) a) u)", "((rec n (pi unit x nat) (fn unit x (f star)) i g (fn unit x (suc (g u))) a) star)")
	p.apart("nat", "((rec n (pi unit x nat) f i j (fn unit x (suc (j x))) a) u)", "((rec n (pi unit x nat) f i j (fn unit x (j x)) a) u)", "((rec n (pi unit x nat) f i j (fn unit x i) a) u)", "((rec n (pi unit x nat) (fn unit x a) i j (fn unit x i) a) u)")
	// Functions of so many numbers, and one less: s is held by the type of one more.
	p = at(t, "a", "nat", "b", "nat")
	p.same("(fun a)", "(rec n (fun n) zero i j (fn nat h j) a)", "(rec n (fun n) zero i j ((fn (fun i) x (fn nat h x)) j) a)")
	p.apart("(fun a)", "(rec n (fun n) zero i j (fn nat h j) a)", "(rec n (fun n) one i j (fn nat h j) a)", "(rec n (fun n) b i j (fn nat h j) a)")
	// The type is that of the number that is there: of none it is a number, and of more a function.
	p = at(t, "a", "nat", "k", "(pi (pi nat n (some n)) x nat)", "g", "(pi nat n (some n))")
	p.same("nat", "(k g)", "(k (fn nat n (g n)))")
	p.is(true, "nat", "(k (fn nat n (rec i (some i) star j x zero n)))", "(k (fn nat n (rec i (some i) (g zero) j x zero n)))")
	p.is(false, "nat", "(k (fn nat n (rec i (some i) star j x zero n)))", "(k (fn nat n (rec i (some i) star j x one n)))")
}

// TestF2CountedTypes: types C must be the same, where a number is bound, even if nothing else tells them apart.
func TestF2CountedTypes(t *testing.T) {
	p := at(t, "a", "nat", "f", "(pi nat n U0)", "g", "(pi nat n U0)", "k", "(pi unit x unit)", "e", "empty")
	p.is(false, "nat", "((rec n (pi unit x nat) (absurd (pi unit x nat) e) i j j a) star)", "((rec n (pi (some n) x nat) (absurd (pi unit x nat) e) i j (absurd (pi nat x nat) e) a) (absurd (some a) e))")
	p.is(false, "nat", "(fst (rec n (sig nat x nat) (absurd (sig nat x nat) e) i j j a))", "(fst (rec n (sig nat x unit) (absurd (sig nat x unit) e) i j j a))")
	p.is(true, "nat", "(fst (rec n (sig nat x nat) (absurd (sig nat x nat) e) i j j a))", "(fst (rec n (sig nat x (some (suc x))) (absurd (sig nat x nat) e) i j j a))")
	p.is(false, "nat", "(fst (rec n (sig nat x (f n)) (absurd (sig nat x (f zero)) e) i j (absurd (sig nat x (f (suc i))) e) a))", "(fst (rec n (sig nat x (g n)) (absurd (sig nat x (g zero)) e) i j (absurd (sig nat x (g (suc i))) e) a))")
}

// TestF2StuckTypes: what types come to hangs on what is stuck, and not on what it could be.
func TestF2StuckTypes(t *testing.T) {
	p := at(t, "p", "(sig nat n (pi (some n) x nat))", "a", "(some (fst p))", "b", "(some (fst p))")
	p.apart("nat", "((snd p) a)", "((snd p) b)")
	p = at(t, "n", "nat", "f", "(pi nat n (pi (some n) x nat))", "a", "(some n)", "b", "(some n)")
	p.apart("nat", "((f n) a)", "((f n) b)")
	p = at(t, "n", "nat", "a", "(some n)", "b", "(some n)")
	p.apart("nat", "((rec k (pi (some k) x nat) (fn unit x zero) i j (fn nat x x) n) a)", "((rec k (pi (some k) x nat) (fn unit x zero) i j (fn nat x x) n) b)")
	// What came of a number is of the type of that number, where s is of the type of one more: here these are one thing.
	p = at(t, "g", "(pi nat n (rec k U0 nat i j unit n))", "h", "(pi nat n (rec k U0 nat i j unit n))", "n", "nat")
	of := "(pi (rec i U0 nat j l unit k) x nat)"
	p.apart("(pi (rec k U0 nat i j unit n) x nat)",
		"(rec k "+of+" (fn nat x x) m c (fn unit x (c (g m))) n)",
		"(rec k "+of+" (fn nat x x) m c (fn unit x (c (h m))) n)")
	p.same("(pi (rec k U0 nat i j unit n) x nat)",
		"(rec k "+of+" (fn nat x x) m c (fn unit x (c (g m))) n)",
		"(rec k "+of+" (fn nat x x) m c (fn unit x (c (g ((add m) zero)))) n)")
}

// TestF2NotStuck: what is not stuck is not stuck alike, even with itself; where types are worked out it is not asked.
func TestF2NotStuck(t *testing.T) {
	p := at(t, "a", "nat", "f", "(pi nat n nat)")
	for _, s := range []string{"zero", "(suc a)"} {
		p.is(false, "nat", "a", s)
		p.is(false, "nat", s, "a")
		p.is(false, "nat", "(f a)", s)
		p.is(false, "nat", s, "(f a)")
	}
	for _, s := range []string{"U0", "unit", "nat", "empty", "(pi nat n nat)", "(sig nat n nat)"} {
		p.isType(false, "(rec n U0 nat i j j a)", s)
		p.isType(false, s, "(rec n U0 nat i j j a)")
	}
}
