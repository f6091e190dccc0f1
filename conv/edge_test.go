package conv

import (
	"testing"

	"sortkernel/api"
)

const deep = 1 << 16

// TestF1Deep: what is as deep as it may be.
func TestF1Deep(t *testing.T) {
	fun := m(api.TmPi, nat, nat)
	ctx := []api.Term{nat, fun}
	chain := func(end api.Term, step func(api.Term) api.Term) api.Term {
		for range deep {
			end = step(end)
		}
		return end
	}
	more := func(x api.Term) api.Term { return m(api.TmSuc, x) }
	call := func(x api.Term) api.Term { return m(api.TmApp, v(0), x) }
	to := func(x api.Term) api.Term { return m(api.TmPi, nat, x) }
	side := func(x api.Term) api.Term { return m(api.TmSig, x, nat) }
	count := func(x api.Term) api.Term { return m(api.TmRec, nat, zero, v(0), x) }
	none := func(x api.Term) api.Term { return m(api.TmAbsurd, empty, x) }
	for i, step := range []func(api.Term) api.Term{more, call, count} {
		if !Same(nil, ctx, chain(v(1), step), chain(v(1), step), nat) {
			t.Errorf("numbers of %d: not the same", i)
		}
		if Same(nil, ctx, chain(v(1), step), chain(zero, step), nat) {
			t.Errorf("numbers of %d: the same", i)
		}
	}
	for i, step := range []func(api.Term) api.Term{to, side} {
		if !SameType(nil, ctx, chain(nat, step), chain(nat, step)) {
			t.Errorf("types of %d: not the same", i)
		}
		if SameType(nil, ctx, chain(nat, step), chain(unit, step)) {
			t.Errorf("types of %d: the same", i)
		}
	}
	if c := []api.Term{empty, empty}; !Same(nil, c, chain(v(0), none), chain(v(0), none), empty) || Same(nil, c, chain(v(0), none), chain(v(1), none), empty) {
		t.Error("of nothing")
	}
}

// TestF1Longest: a function of many is itself, as one of each.
func TestF1Longest(t *testing.T) {
	const many = 1 << 12
	of, long := nat, calls(many)
	for range many {
		of, long = m(api.TmPi, nat, of), m(api.TmLam, nat, long)
	}
	ctx := []api.Term{of, of}
	if !Same(nil, ctx, v(0), long, of) || !Same(nil, ctx, long, v(0), of) || Same(nil, ctx, v(1), long, of) {
		t.Error("a function of many")
	}
}

// calls is what was bound ahead of the last so many, of all of these.
func calls(many int) api.Term {
	x := v(many)
	for i := range many {
		x = m(api.TmApp, x, v(many-1-i))
	}
	return x
}

// TestF1LongContext: of a context that is long, the last one and the first one.
func TestF1LongContext(t *testing.T) {
	ctx := []api.Term{u(0)}
	for i := range deep {
		ctx = append(ctx, v(i))
	}
	of := v(deep)
	if !Same(nil, ctx, v(0), v(0), of) || Same(nil, ctx, v(0), v(1), of) || Same(nil, ctx, v(0), v(deep-1), of) {
		t.Error("what is bound")
	}
	if !SameType(nil, ctx, v(deep), v(deep)) {
		t.Error("what is bound first")
	}
}

// TestF1Large: what terms come to may be much, of few words.
func TestF1Large(t *testing.T) {
	p := at(t, "f", "(pi nat n nat)", "a", "nat")
	large := "(tower (suc (suc (suc (suc one)))))" // 65536
	p.is(true, "nat", large, "((add zero) "+large+")")
	p.is(false, "nat", large, "((add one) "+large+")")
	p.is(true, "nat", "(rec n nat a i j (f j) "+large+")", "(rec n nat a i j ((fn nat k (f k)) j) "+large+")")
	p.is(false, "nat", "(rec n nat a i j (f j) "+large+")", "(f (rec n nat a i j (f j) "+large+"))")
	p.is(true, "U0", "(rec n U0 nat i j (pi nat h j) "+large+")", "(fun "+large+")")
	p.is(false, "U0", "(rec n U0 nat i j (pi nat h j) "+large+")", "(fun (suc "+large+"))")
	// Two to 65536: nobody counts to it, but where it is held against as much.
	p.is(false, "nat", "(tower (suc (suc (suc (suc (suc one))))))", "zero")
	p.is(true, "unit", "(rec n unit star i j j (tower (suc (suc (suc (suc (suc one)))))))", "star")
}

// TestF1WrongTerms: of terms that are not right nothing is promised, but that nothing panics; and they are not the
// same as others.
func TestF1WrongTerms(t *testing.T) {
	p := at(t, "a", "nat", "f", "(pi nat n nat)", "p", "(sig nat n nat)", "e", "empty")
	wrong := []api.Term{none, m(-1), m(19), m(api.TmDef), def(-1), def(6), v(4), v(-9), v(1 << 40), m(api.TmApp), m(api.TmApp, v(2)), m(api.TmFst), m(api.TmSnd), m(api.TmAbsurd, nat), m(api.TmRec, nat, zero, v(0)), m(api.TmSuc), m(api.TmLam, nat), m(api.TmPair, nat, nat, zero), m(api.TmPi, nat), m(api.TmSig),
		m(api.TmApp, none, zero), m(api.TmApp, v(3), zero), m(api.TmApp, v(1), zero), m(api.TmFst, v(3)), m(api.TmSnd, v(2)), m(api.TmFst, none), m(api.TmAbsurd, nat, none), m(api.TmRec, nat, zero, v(0), none), m(api.TmApp, v(2), none), m(api.TmSuc, none),
		m(api.TmLam, nat, none), m(api.TmPair, nat, nat, none, none), m(api.TmApp, m(api.TmLam, nat, none), zero)}
	right := p.reads([]string{"a", "zero", "(suc a)", "(f a)", "(fst p)", "(absurd nat e)", "(rec n nat a i j j a)"})
	for i, x := range wrong {
		for _, of := range append(wrong, nat, empty, p.read("(pi nat n nat)"), p.read("(sig nat n nat)"), u(0)) {
			for _, y := range right {
				Same(nil, p.ctx, x, y, of)
				Same(nil, p.ctx, y, x, of)
				Same(nil, nil, x, y, of)
			}
		}
		for _, y := range append(right, wrong...) {
			if Same(nil, p.ctx, x, y, nat) || Same(nil, p.ctx, y, x, nat) {
				t.Errorf("numbers: %d is the same", i)
			}
			if SameType(nil, p.ctx, x, y) && (x.Kind != api.TmPi || y.Kind != api.TmPi) {
				t.Errorf("types: %d is the same", i)
			}
		}
		if !Same(nil, p.ctx, x, star, unit) {
			t.Errorf("of unit %d is not the same", i)
		}
		Same(nil, wrong, v(i), v(i), nat)
		if x.Kind != api.TmDef { // one that is itself comes to no end
			Same([]api.Decl{{Type: nat, Body: x}}, nil, def(0), def(0), nat)
		}
	}
}

// TestF1OnlyReads: what is handed in is only read, and of its spare room nothing hangs.
func TestF1OnlyReads(t *testing.T) {
	c := &chooser{seed: 9}
	for round := range 300 {
		p := places(t)[round%5]
		s := p.scope()
		of := roomy(c.madeType(s, round%4))
		x, y := roomy(c.made(s, of, 3)), roomy(c.made(s, of, 3))
		want, wantType := Same(p.decls, p.ctx, x, y, of), SameType(p.decls, p.ctx, of, of)
		var decls []api.Decl
		for _, d := range p.decls {
			decls = append(decls, api.Decl{Name: d.Name, Type: roomy(d.Type), Body: roomy(d.Body)})
		}
		ctx := roomy(m(0, p.ctx...))
		before := []api.Term{roomy(x), roomy(y), roomy(of), roomy(ctx), roomy(m(0, bodies(decls)...))}
		if Same(decls, ctx.Args, x, y, of) != want || SameType(decls, ctx.Args, of, of) != wantType {
			t.Fatal("spare room matters")
		}
		for i, z := range []api.Term{x, y, of, ctx, roomy(m(0, bodies(decls)...))} {
			if !sameRoom(roomy(z), before[i]) || !sameRoom(z, before[i]) {
				t.Fatalf("%d is changed", i)
			}
		}
	}
}

func bodies(decls []api.Decl) []api.Term {
	var out []api.Term
	for _, d := range decls {
		out = append(out, d.Type, d.Body)
	}
	return out
}
