package conv

import (
	"testing"

	"sortkernel/api"
	"sortkernel/eval"
	"sortkernel/step"
	"sortkernel/term"
)

// places are contexts in which terms are made; something of none is bound first.
func places(t *testing.T) []*place {
	return []*place{
		at(t, "e", "empty", "a", "nat", "f", "(pi nat n nat)", "p", "(sig nat n unit)", "u", "unit"),
		at(t, "e", "empty", "v", "U0", "x", "v", "f", "(pi v y v)", "g", "(pi v y nat)"),
		at(t, "e", "empty", "w", "(pi nat n U0)", "f", "(pi nat n (w n))", "p", "(sig nat n (w n))", "g", "(pi (w zero) y nat)"),
		at(t, "e", "empty", "q", "(sig nat n (some n))", "h", "(pi (pi nat n unit) k nat)", "f", "(pi nat n (some n))"),
		at(t, "e", "empty", "i", "(pi U0 v (pi v x v))", "k", "(pi (pi nat n nat) x nat)", "a", "nat", "b", "nat"),
	}
}

func (p *place) scope() scope { return scope{p.t, p.decls, p.ctx} }

// TestF1AsLongest: two are the same if their longest forms are.
func TestF1AsLongest(t *testing.T) {
	c := &chooser{seed: 1}
	yes, no := 0, 0
	for round := range 400 {
		p := places(t)[round%5]
		s := p.scope()
		of := s.normal(c.madeType(s, round%4))
		var l, long []api.Term
		for range 6 {
			x := c.made(s, of, 1+c.pick(4))
			l, long = append(l, x), append(long, s.long(x, of))
		}
		for i := range l {
			for j := range l {
				want := term.Same(long[i], long[j])
				if got := Same(p.decls, p.ctx, l[i], l[j], of); got != want {
					t.Fatalf("%s and %s, of %s: %t comes", p.written(l[i]), p.written(l[j]), p.written(of), got)
				}
				if i != j && want && !term.Same(s.normal(l[i]), s.normal(l[j])) {
					yes++
				} else if !want {
					no++
				}
			}
		}
	}
	if yes < 300 || no < 2000 {
		t.Errorf("%d are the same, %d are not", yes, no)
	}
}

// TestF1TypesAsLongest: likewise of types.
func TestF1TypesAsLongest(t *testing.T) {
	c := &chooser{seed: 2}
	yes, no := 0, 0
	for round := range 400 {
		p := places(t)[round%5]
		s := p.scope()
		var l, long []api.Term
		for range 6 {
			x := c.madeType(s, 1+c.pick(3))
			l, long = append(l, x), append(long, s.longType(x))
		}
		for i := range l {
			for j := range l {
				want := term.Same(long[i], long[j])
				if got := SameType(p.decls, p.ctx, l[i], l[j]); got != want {
					t.Fatalf("%s and %s: %t comes", p.written(l[i]), p.written(l[j]), got)
				}
				if i != j && want {
					yes++
				} else if !want {
					no++
				}
			}
		}
	}
	if yes < 300 || no < 2000 {
		t.Errorf("%d are the same, %d are not", yes, no)
	}
}

// law: Same says holds of x and y, of type of, where those are bound.
func law(t *testing.T, what string, p *place, ctx []api.Term, x, y, of api.Term, holds bool) {
	t.Helper()
	if Same(p.decls, ctx, x, y, of) != holds {
		t.Fatalf("%s: %s and %s, of %s: not %t", what, p.written(x), p.written(y), p.written(of), holds)
	}
}

// TestF1Laws: it is itself, both ways, and by others; what is to do is no matter; nor is whether it is as long as it
// can be, or what is bound ahead of what is in it.
func TestF1Laws(t *testing.T) {
	c := &chooser{seed: 3}
	for round := range 2000 {
		p := places(t)[round%5]
		s := p.scope()
		of := c.madeType(s, round%4)
		x, y := c.made(s, of, 1+c.pick(4)), c.made(s, of, 1+c.pick(4))
		holds := Same(p.decls, p.ctx, x, y, of)
		law(t, "both ways", p, p.ctx, y, x, of, holds)
		stepped, _ := step.Step(p.decls, x)
		for _, z := range []api.Term{x, stepped, eval.Normal(p.decls, x, len(p.ctx)), s.long(x, of)} {
			law(t, "itself", p, p.ctx, x, z, of, true)
			law(t, "itself", p, p.ctx, z, x, of, true)
			law(t, "by others", p, p.ctx, z, y, of, holds)
		}
		law(t, "of a type that is longer", p, p.ctx, x, y, s.longType(of), holds)
		law(t, "with more", p, s.with(nat).ctx, term.Lift(x, 1, 0), term.Lift(y, 1, 0), term.Lift(of, 1, 0), holds)
	}
}

// TestF1Parts: as a whole it is its parts.
func TestF1Parts(t *testing.T) {
	c := &chooser{seed: 4}
	yes := 0
	for round := range 2000 {
		p := places(t)[round%5]
		s := p.scope()
		of := c.madeType(s, round%4)
		x, y := c.made(s, of, 1+c.pick(3)), c.made(s, of, 1+c.pick(3))
		holds := Same(p.decls, p.ctx, x, y, of)
		if holds {
			yes++
		}
		up := func(x api.Term) api.Term { return term.Lift(x, 1, 0) }
		law(t, "function", p, p.ctx, m(api.TmLam, nat, up(x)), m(api.TmLam, nat, up(y)), m(api.TmPi, nat, up(of)), holds)
		first := func(x api.Term) api.Term { return m(api.TmPair, of, nat, x, zero) }
		law(t, "first half", p, p.ctx, first(x), first(y), m(api.TmSig, of, nat), holds)
		second := func(x api.Term) api.Term { return m(api.TmPair, nat, up(of), zero, x) }
		law(t, "second half", p, p.ctx, second(x), second(y), m(api.TmSig, nat, up(of)), holds)
		call := func(x api.Term) api.Term { return m(api.TmApp, v(0), up(x)) }
		law(t, "called", p, s.with(m(api.TmPi, of, nat)).ctx, call(x), call(y), nat, holds)
		if s.normal(of).Kind == api.TmNat {
			law(t, "one more", p, p.ctx, m(api.TmSuc, x), m(api.TmSuc, y), nat, holds)
		}
		counted := func(x api.Term) api.Term { return m(api.TmRec, up(up(of)), up(x), v(0), v(0)) }
		law(t, "of none", p, s.with(nat).ctx, counted(x), counted(y), up(of), holds)
	}
	if yes < 200 || yes > 1800 {
		t.Errorf("%d are the same", yes)
	}
}

// TestF1TypeValues: of values it is what it is of terms, where types of values are bound.
func TestF1TypeValues(t *testing.T) {
	c := &chooser{seed: 5}
	for round := range 400 {
		p := places(t)[round%5]
		s := p.scope()
		x, y := c.madeType(s, 1+c.pick(3)), c.madeType(s, 1+c.pick(3))
		maker := eval.NewMaker(p.decls, len(p.ctx))
		var types, room []*eval.Later
		for i := range p.ctx {
			types = append(types, maker.Where(i).Later(&p.ctx[i]))
		}
		room = append(append(room, types...), nil, nil)
		for _, z := range []api.Term{x, y} {
			got := SameTypeValues(room[:len(types)], maker.Later(&x), maker.Later(&z))
			if want := SameType(p.decls, p.ctx, x, z); got != want {
				t.Fatalf("%s and %s: %t comes", p.written(x), p.written(z), got)
			}
		}
		if room[len(types)] != nil || room[len(types)+1] != nil {
			t.Fatal("the spare room is changed")
		}
	}
}
