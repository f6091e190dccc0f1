package infer

import (
	"math"
	"testing"

	"sortkernel/api"
	"sortkernel/term"
)

// TestG2Large: what nobody asks for is not worked out, however much it would be.
func TestG2Large(t *testing.T) {
	p := at(t, "e", "empty", "w", "(pi nat n U0)", "h", "(pi nat n (w n))", "s", "(pi (w zero) y nat)")
	of := func(of string, l ...string) {
		t.Helper()
		for _, s := range l {
			if got, e := Infer(p.decls, p.ctx, p.read(s)); e != api.OK || !term.Same(got, p.read(of)) {
				t.Errorf("%s: %s comes, %d", s, p.written(got), e)
			}
		}
	}
	of("nat", huge, "(suc "+huge+")", "(rec n nat zero m k k "+huge+")", "(snd (pair nat n (some n) "+huge+" zero))", "((fn nat n n) "+huge+")")
	of("U0", "(w "+huge+")", "(pi (w "+huge+") y (w "+huge+"))", "(some "+huge+")", "((fn nat n (w n)) "+huge+")")
	of("(pi nat n nat)", "(fn (some "+huge+") n n)", "((fn nat n (fn (some (suc n)) k k)) "+huge+")")
	of("(sig nat n nat)", "(pair (some "+huge+") n nat zero one)")
	// Types that are not answered, nor held against others.
	of("nat", "(fst (absurd (sig nat n (w "+huge+")) e))", "((absurd (pi nat n nat) (absurd empty (snd (absurd (sig (w "+huge+") n empty) e)))) zero)", "(fst ((fn nat n (absurd (sig nat m (w n)) e)) "+huge+"))", "((fn nat n zero) "+huge+")")
	p.checks("zero", "(some "+huge+")", api.OK)
	p.checks("star", "(some "+huge+")", api.ErrType)
	p.checks("(h "+huge+")", "nat", api.ErrType)
	p.checks("(fn (some "+huge+") n n)", "(pi nat n (some (suc n)))", api.OK)
	p.bad(api.ErrType, "(s (h "+huge+"))")
	p.bad(api.ErrFun, "((h "+huge+") zero)")
	p.bad(api.ErrPair, "(fst (h "+huge+"))")
	if n, e := Sort(p.decls, p.ctx, p.read("(sig nat n (w "+huge+"))")); n != 0 || e != api.OK {
		t.Errorf("%d, %d", n, e)
	}
	// 65536: much, but not too much.
	p.checks("(h (power (suc (suc one))))", "(w (suc (suc (suc (suc (suc (suc (suc one))))))))", api.OK)
	p.checks("(h (tower (suc (suc (suc (suc one))))))", "(w ((add zero) (tower (suc (suc (suc (suc one)))))))", api.OK)
	p.checks("(h (tower (suc (suc (suc (suc one))))))", "(w ((add one) (tower (suc (suc (suc (suc one)))))))", api.ErrType)
}

// TestG2MostOfAll: terms of as much, and as many within one another, as may be.
func TestG2MostOfAll(t *testing.T) {
	number, fun, of := zero, v(0), nat
	for range api.MaxDeep - 1 {
		number = m(api.TmSuc, number)
	}
	for range api.MaxDeep - 2 {
		fun, of = m(api.TmLam, nat, fun), m(api.TmPi, nat, of)
	}
	fun, of = m(api.TmLam, nat, fun), m(api.TmPi, nat, of)
	for _, c := range []struct{ x, of api.Term }{{number, nat}, {fun, of}, {of, u(0)}} {
		if e := term.Wrong(c.x, 0, 0); e != api.OK {
			t.Fatalf("not right: %d", e)
		}
		if got, e := Infer(nil, nil, c.x); e != api.OK || !term.Same(got, c.of) {
			t.Errorf("%v: %v comes, %d", c.x, got, e)
		}
		if e := Check(nil, nil, c.x, c.of); e != api.OK {
			t.Errorf("%v: %d", c.x, e)
		}
	}
	// Each doubles what its type is: half of what may be within one another makes some thousands.
	pairs, depth := zero, 0
	for term.Size(pairs)*2 < api.MaxSize {
		pairs, depth = m(api.TmApp, m(api.TmLam, nat, m(api.TmLam, nat, v(1))), pairs), depth+1
		pairs = m(api.TmApp, pairs, zero)
	}
	if got, e := Infer(nil, nil, pairs); e != api.OK || !term.Same(got, nat) {
		t.Errorf("%v comes, %d", got, e)
	}
}

// TestG2Doubled: a type that is of few words, and comes to much.
func TestG2Doubled(t *testing.T) {
	p := at(t, "e", "empty")
	const text = "(rec n U0 nat m k (sig k y k) (suc (suc (suc (suc (suc (suc (suc (suc (suc (suc zero)))))))))))"
	got, e := Infer(p.decls, p.ctx, p.read("(fn nat b (fn nat c (absurd "+text+" e)))"))
	if e != api.OK || term.Size(got) != 4+1<<11-1 {
		t.Errorf("%d terms come, %d", term.Size(got), e)
	}
	p.checks("(absurd "+text+" e)", text, api.OK)
	p.checks("(fst (absurd "+text+" e))", text, api.ErrType)
	p.checks("(snd (absurd "+text+" e))", "(rec n U0 nat m k (sig k y k) (suc (suc (suc (suc (suc (suc (suc (suc (suc zero))))))))))", api.OK)
}

// TestG1LongContext: contexts may be long; each type stands where those ahead are, and no others.
func TestG1LongContext(t *testing.T) {
	const long = 1 << 16
	ctx := []api.Term{u(0)}
	for i := range long {
		ctx = append(ctx, m(api.TmPi, m(api.TmPi, v(i), v(i+1)), v(i+1)))
	}
	if e, at := Context(nil, ctx); e != api.OK || at != -1 {
		t.Errorf("%d, %d", e, at)
	}
	want := term.Lift(ctx[long], 1, 0)
	if got, e := Infer(nil, ctx, v(0)); e != api.OK || !term.Same(got, want) {
		t.Errorf("the last one: %v, %d", got, e)
	}
	if got, e := Infer(nil, ctx, v(long)); e != api.OK || !term.Same(got, u(0)) {
		t.Errorf("the first one: %v, %d", got, e)
	}
	call := m(api.TmApp, v(0), m(api.TmLam, v(long), v(0)))
	if got, e := Infer(nil, ctx, call); e != api.OK || !term.Same(got, v(long)) {
		t.Errorf("called: %v, %d", got, e)
	}
	ctx[long] = m(api.TmPi, v(long-1), v(1))
	if e, at := Context(nil, ctx); e != api.ErrSort || at != long {
		t.Errorf("the last one is wrong: %d, %d", e, at)
	}
}

// TestG1Wrong: of terms that are not right nothing is promised, but nothing panics, and they have no type.
func TestG1Wrong(t *testing.T) {
	p := at(t, "a", "nat", "f", "(pi nat n nat)")
	for _, c := range []struct {
		x    api.Term
		want api.Errno
	}{
		{none, api.ErrKind}, {m(-1), api.ErrKind}, {m(19), api.ErrKind}, {m(math.MaxInt, nat), api.ErrKind}, {m(api.TmSuc, none), api.ErrKind}, {m(api.TmLam, nat, none), api.ErrKind},
		{v(2), api.ErrRange}, {v(-1), api.ErrRange}, {v(math.MaxInt), api.ErrRange}, {v(math.MinInt), api.ErrRange}, {m(api.TmLam, nat, v(3)), api.ErrRange},
		{def(len(declared)), api.ErrRange}, {def(-1), api.ErrRange}, {def(math.MaxInt), api.ErrRange},
		{u(4), api.ErrRange}, {u(-1), api.ErrRange}, {u(math.MaxInt), api.ErrRange}, {u(math.MinInt), api.ErrRange},
		{m(api.TmVar, nat), api.ErrMany}, {m(api.TmNat, nat), api.ErrMany}, {m(api.TmApp, v(0)), api.ErrMany}, {m(api.TmRec, nat, zero, v(0)), api.ErrMany}, {m(api.TmSuc), api.ErrMany}, {m(api.TmPair, nat, nat, zero, zero, zero), api.ErrMany}, {m(api.TmApp, v(0), m(api.TmLam)), api.ErrMany},
	} {
		if got, e := Infer(p.decls, p.ctx, c.x); e != c.want || !term.Same(got, api.Term{}) {
			t.Errorf("%v: %v comes, %d", c.x, got, e)
		}
		if n, e := Sort(p.decls, p.ctx, c.x); e != c.want || n != 0 {
			t.Errorf("%v: %d comes, %d", c.x, n, e)
		}
		if e := Check(p.decls, p.ctx, c.x, nat); e != c.want {
			t.Errorf("%v: %d comes of Check", c.x, e)
		}
		if e := Check(p.decls, p.ctx, zero, c.x); e != api.ErrType {
			t.Errorf("%v: %d comes of Check, of it", c.x, e)
		}
		if e, at := Context(p.decls, []api.Term{nat, m(api.TmPi, nat, nat), c.x}); e != c.want || at != 2 {
			t.Errorf("%v: %d comes of Context, at %d", c.x, e, at)
		}
	}
}

// all has all that is handed in, as one term.
func all(decls []api.Decl, ctx []api.Term, l ...api.Term) api.Term {
	out := m(0, roomy(m(0, ctx...)))
	for _, d := range decls {
		out.Args = append(out.Args, d.Type, d.Body)
	}
	return roomy(m(0, append(out.Args, l...)...))
}

// TestG1OnlyReads: what is handed in is only read, of its spare room nothing hangs, and what is answered is not of it.
func TestG1OnlyReads(t *testing.T) {
	for _, p := range places(t) {
		var decls []api.Decl
		for _, d := range p.decls {
			decls = append(decls, api.Decl{Name: d.Name, Type: roomy(d.Type), Body: roomy(d.Body)})
		}
		ctx := roomy(m(0, p.ctx...)).Args
		for _, one := range grown(p, 11, 500) {
			x, of := roomy(one.x), roomy(one.of)
			before := all(decls, ctx, x, of)
			got, e := Infer(decls, ctx, x)
			if e != api.OK || !term.Same(got, one.of) || Check(decls, ctx, x, of) != api.OK {
				t.Fatalf("%s: spare room matters: %d", p.written(one.x), e)
			}
			Sort(decls, ctx, of)
			Context(decls, ctx)
			spoil(got)
			if !sameRoom(all(decls, ctx, x, of), before) || !sameRoom(x, roomy(one.x)) || !sameRoom(of, roomy(one.of)) {
				t.Fatalf("%s: what is handed in is changed", p.written(one.x))
			}
		}
	}
}

// TestG2NewMemory: once what was handed in is changed, what was answered stays; and no two lists of it are one.
func TestG2NewMemory(t *testing.T) {
	for _, s := range []string{"(fn (sig nat n nat) p p)", "(fn nat n (pair (some n) y (some n) (f n) (f n)))", "g", "(snd (pair U0 a (pi a x a) nat next))", "add", "(absurd (pi (sig nat n nat) p (sig nat n nat)) e)"} {
		p := at(t, "f", "(pi nat n (some n))", "g", "(pi (sig nat n nat) p (sig nat n nat))", "e", "empty")
		x := p.read(s)
		got, e := Infer(p.decls, p.ctx, x)
		again, _ := Infer(p.decls, p.ctx, x)
		if e != api.OK {
			t.Fatalf("%s: %d", s, e)
		}
		spoil(x)
		for i, d := range p.decls {
			spoil(p.ctx[i%len(p.ctx)])
			spoil(d.Type)
			spoil(d.Body)
		}
		if !term.Same(got, again) {
			t.Errorf("%s: what was answered is changed", s)
		}
		many := map[*api.Term]int{}
		lists(got, many)
		for _, n := range many {
			if n > 1 {
				t.Errorf("%s: a list is there %d times", s, n)
			}
		}
		spoil(got)
		if lists(again, many); term.Same(got, again) {
			t.Errorf("%s: two answers are one", s)
		}
	}
}

// lists has the first place of each list of x, and how often it is there.
func lists(x api.Term, out map[*api.Term]int) {
	if cap(x.Args) > 0 {
		out[&x.Args[:1][0]]++
	}
	for _, a := range x.Args {
		lists(a, out)
	}
}
