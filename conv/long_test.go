package conv

import (
	"testing"

	"sortkernel/api"
	"sortkernel/eval"
	"sortkernel/term"
)

// What is the same has one longest form: functions are written as such, and pairs, down to numbers, and the one thing
// is star. So two are the same if these are. They are worked out term by term, by other means than the package has.

// scope is where a term of those stands.
type scope struct {
	t     *testing.T
	decls []api.Decl
	ctx   []api.Term
}

func (s scope) with(a api.Term) scope {
	s.ctx = append(s.ctx[:len(s.ctx):len(s.ctx)], a)
	return s
}

func (s scope) normal(x api.Term) api.Term { return eval.Normal(s.decls, x, len(s.ctx)) }

// long is x's longest form, of type of.
func (s scope) long(x, of api.Term) api.Term {
	of = s.normal(of)
	switch of.Kind {
	case api.TmPi:
		called := m(api.TmApp, term.Lift(x, 1, 0), v(0))
		return m(api.TmLam, s.longType(of.Args[0]), s.with(of.Args[0]).long(called, of.Args[1]))
	case api.TmSig:
		first := m(api.TmFst, x)
		b := s.with(of.Args[0]).longType(of.Args[1])
		return m(api.TmPair, s.longType(of.Args[0]), b, s.long(first, of.Args[0]), s.long(m(api.TmSnd, x), term.Put(of.Args[1], first)))
	case api.TmUnit:
		return star
	case api.TmU:
		return s.longType(x)
	}
	x = s.normal(x)
	if x.Kind == api.TmZero {
		return x
	}
	if x.Kind == api.TmSuc {
		return m(api.TmSuc, s.long(x.Args[0], of))
	}
	x, _ = s.longStuck(x)
	return x
}

func (s scope) longType(x api.Term) api.Term {
	x = s.normal(x)
	switch x.Kind {
	case api.TmU, api.TmUnit, api.TmEmpty, api.TmNat:
		return x
	case api.TmPi, api.TmSig:
		return m(x.Kind, s.longType(x.Args[0]), s.with(x.Args[0]).longType(x.Args[1]))
	}
	x, _ = s.longStuck(x)
	return x
}

// longStuck is the longest form of what is stuck, and its type.
func (s scope) longStuck(x api.Term) (api.Term, api.Term) {
	switch x.Kind {
	case api.TmVar:
		return x, s.normal(term.Lift(s.ctx[len(s.ctx)-1-x.N], x.N+1, 0))
	case api.TmApp:
		f, of := s.longStuck(x.Args[0])
		return m(api.TmApp, f, s.long(x.Args[1], of.Args[0])), s.normal(term.Put(of.Args[1], x.Args[1]))
	case api.TmFst:
		p, of := s.longStuck(x.Args[0])
		return m(api.TmFst, p), of.Args[0]
	case api.TmSnd:
		p, of := s.longStuck(x.Args[0])
		return m(api.TmSnd, p), s.normal(term.Put(of.Args[1], m(api.TmFst, x.Args[0])))
	case api.TmAbsurd:
		e, _ := s.longStuck(x.Args[1])
		return m(api.TmAbsurd, s.longType(x.Args[0]), e), x.Args[0]
	case api.TmRec:
		return s.longRec(x)
	}
	s.t.Fatalf("kind %d is not stuck", x.Kind)
	return x, x
}

func (s scope) longRec(x api.Term) (api.Term, api.Term) {
	number, _ := s.longStuck(x.Args[3])
	c := x.Args[0]
	inner := s.with(nat)
	// C of one more: where the number is bound, and what came of it.
	more := term.Lift(term.Put(term.Lift(c, 1, 1), m(api.TmSuc, v(0))), 1, 0)
	return m(api.TmRec,
		inner.longType(c),
		s.long(x.Args[1], term.Put(c, zero)),
		inner.with(c).long(x.Args[2], more),
		number,
	), s.normal(term.Put(c, x.Args[3]))
}
