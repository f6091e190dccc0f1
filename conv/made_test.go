package conv

import (
	"sortkernel/api"
	"sortkernel/term"
)

// chooser chooses by numbers that come of each other.
type chooser struct{ seed uint32 }

func (c *chooser) pick(many int) int {
	c.seed = c.seed*1664525 + 1013904223
	return int(c.seed>>16) % many
}

// madeType is a type there.
func (c *chooser) madeType(s scope, deep int) api.Term {
	if deep <= 0 {
		return []api.Term{nat, nat, unit, empty}[c.pick(4)]
	}
	switch c.pick(8) {
	case 0, 1, 2:
		a := c.madeType(s, deep-1)
		return m(api.TmPi, a, c.madeType(s.with(a), deep-1))
	case 3, 4:
		a := c.madeType(s, deep-1)
		return m(api.TmSig, a, c.madeType(s.with(a), deep-1))
	case 5:
		if x, ok := c.reached(s, u(0), deep); ok {
			return x
		}
	case 6:
		// One of two, by a number.
		one := term.Lift(c.madeType(s, deep-1), 2, 0)
		return m(api.TmRec, u(0), c.madeType(s, deep-1), one, c.made(s, nat, deep-1))
	}
	return c.madeType(s, 0)
}

// made is a term of that type there; e, of none, is bound first of all, so that there is always one.
func (c *chooser) made(s scope, of api.Term, deep int) api.Term {
	of = s.normal(of)
	if deep > 0 && c.pick(4) == 0 {
		return c.detour(s, of, deep-1)
	}
	if c.pick(2) == 0 {
		if x, ok := c.reached(s, of, deep); ok {
			return x
		}
	}
	switch of.Kind {
	case api.TmPi:
		return m(api.TmLam, of.Args[0], c.made(s.with(of.Args[0]), of.Args[1], deep-1))
	case api.TmSig:
		a := c.made(s, of.Args[0], deep-1)
		return m(api.TmPair, of.Args[0], of.Args[1], a, c.made(s, term.Put(of.Args[1], a), deep-1))
	case api.TmUnit:
		return star
	case api.TmU:
		return c.madeType(s, deep-1)
	case api.TmNat:
		if deep > 0 && c.pick(2) == 0 {
			return m(api.TmSuc, c.made(s, nat, deep-1))
		}
		return zero
	}
	if x, ok := c.reached(s, of, deep); ok {
		return x
	}
	return m(api.TmAbsurd, of, v(len(s.ctx)-1))
}

// detour is one at which there is a step, or which is stuck only by what is in it.
func (c *chooser) detour(s scope, of api.Term, deep int) api.Term {
	a := c.madeType(s, min(deep-1, 1))
	switch c.pick(5) {
	case 0:
		f := m(api.TmLam, a, c.made(s.with(a), term.Lift(of, 1, 0), deep))
		return m(api.TmApp, f, c.made(s, a, deep))
	case 1:
		b := term.Lift(a, 1, 0)
		return m(api.TmFst, m(api.TmPair, of, b, c.made(s, of, deep), c.made(s, a, deep)))
	case 2:
		b := term.Lift(of, 1, 0)
		return m(api.TmSnd, m(api.TmPair, a, b, c.made(s, a, deep), c.made(s, of, deep)))
	case 3:
		return m(api.TmAbsurd, of, v(len(s.ctx)-1))
	}
	came := term.Lift(of, 1, 0)
	more := c.made(s.with(nat).with(came), term.Lift(of, 2, 0), deep)
	return m(api.TmRec, came, c.made(s, of, deep), more, c.made(s, nat, deep))
}

// reached is one of that type which something bound comes to, if it is called, or halved, a few times.
func (c *chooser) reached(s scope, of api.Term, deep int) (api.Term, bool) {
	want := s.longType(of)
	for range 4 {
		n := c.pick(len(s.ctx))
		x, t := v(n), s.normal(term.Lift(s.ctx[len(s.ctx)-1-n], n+1, 0))
		for range 4 {
			if term.Same(s.longType(t), want) {
				return x, true
			}
			if t.Kind == api.TmPi && deep > 0 {
				a := c.made(s, t.Args[0], deep-2)
				x, t = m(api.TmApp, x, a), s.normal(term.Put(t.Args[1], a))
			} else if t.Kind == api.TmSig && c.pick(2) == 0 {
				x, t = m(api.TmFst, x), t.Args[0]
			} else if t.Kind == api.TmSig {
				x, t = m(api.TmSnd, x), s.normal(term.Put(t.Args[1], m(api.TmFst, x)))
			}
		}
	}
	return none, false
}
