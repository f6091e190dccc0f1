package infer

import (
	"sortkernel/api"
	"sortkernel/eval"
)

// infer is t's type there.
func (s *scope) infer(t *api.Term) (*eval.Later, api.Errno) {
	if e := wrong(t); e != api.OK {
		return nil, e
	}
	switch t.Kind {
	case api.TmVar:
		return s.bound(t.N)
	case api.TmDef:
		return s.declared(t.N)
	case api.TmU:
		return above(t.N)
	case api.TmUnit, api.TmEmpty, api.TmNat:
		return eval.Height(0), api.OK
	case api.TmStar:
		return eval.Of(api.TmUnit), api.OK
	case api.TmZero:
		return eval.Of(api.TmNat), api.OK
	case api.TmSuc:
		return s.number(&t.Args[0])
	case api.TmPi, api.TmSig:
		return s.family(&t.Args[0], &t.Args[1])
	case api.TmLam:
		return s.function(&t.Args[0], &t.Args[1])
	case api.TmApp:
		return s.call(&t.Args[0], &t.Args[1])
	case api.TmPair:
		return s.pair(t.Args)
	case api.TmFst, api.TmSnd:
		return s.half(t.Kind, &t.Args[0])
	case api.TmAbsurd:
		return s.absurd(&t.Args[0], &t.Args[1])
	case api.TmRec:
		return s.count(&t.Args[0], &t.Args[1], &t.Args[2], &t.Args[3])
	}
	return nil, api.ErrKind
}

func (s *scope) bound(n int) (*eval.Later, api.Errno) {
	if n < 0 || n >= len(s.types) {
		return nil, api.ErrRange
	}
	return s.types[len(s.types)-1-n], api.OK
}

func (s *scope) declared(n int) (*eval.Later, api.Errno) {
	if n < 0 || n >= len(s.decls) {
		return nil, api.ErrRange
	}
	return s.none.Later(&s.decls[n].Type), api.OK
}

// above is of TmU: the highest one is of no type.
func above(height int) (*eval.Later, api.Errno) {
	if height < 0 || height >= api.MaxU {
		return nil, api.ErrRange
	}
	return eval.Height(height + 1), api.OK
}

func (s *scope) number(n *api.Term) (*eval.Later, api.Errno) {
	nat := eval.Of(api.TmNat)
	if e := s.check(n, nat); e != api.OK {
		return nil, e
	}
	return nat, api.OK
}

// family is of TmPi, and TmSig.
func (s *scope) family(a, b *api.Term) (*eval.Later, api.Errno) {
	first, e := s.sort(a)
	if e != api.OK {
		return nil, e
	}
	second, e := s.sortWith(s.value(a), b)
	if e != api.OK {
		return nil, e
	}
	return eval.Height(max(first, second)), api.OK
}

func (s *scope) function(a, b *api.Term) (*eval.Later, api.Errno) {
	if _, e := s.sort(a); e != api.OK {
		return nil, e
	}
	from := s.value(a)
	s.bind(from)
	to, e := s.infer(b)
	s.leave(1)
	if e != api.OK {
		return nil, e
	}
	return s.maker().Under(api.TmPi, from, to), api.OK
}

func (s *scope) call(f, a *api.Term) (*eval.Later, api.Errno) {
	of, e := s.infer(f)
	if e != api.OK {
		return nil, e
	}
	pi := of.Now()
	if !pi.Is(api.TmPi, 2) {
		return nil, api.ErrFun
	}
	if e := s.check(a, pi.Arg(0)); e != api.OK {
		return nil, e
	}
	return pi.Arg(1, s.value(a)), api.OK
}

// pair is of the arguments A, B, a, b.
func (s *scope) pair(args []api.Term) (*eval.Later, api.Errno) {
	typeA, typeB, a, b := &args[0], &args[1], &args[2], &args[3]
	if _, e := s.family(typeA, typeB); e != api.OK {
		return nil, e
	}
	if e := s.check(a, s.value(typeA)); e != api.OK {
		return nil, e
	}
	if e := s.check(b, s.value(typeB, s.value(a))); e != api.OK {
		return nil, e
	}
	return s.value(&api.Term{Kind: api.TmSig, Args: args[:2]}), api.OK
}

// half is of TmFst, and TmSnd.
func (s *scope) half(kind int, pair *api.Term) (*eval.Later, api.Errno) {
	of, e := s.infer(pair)
	if e != api.OK {
		return nil, e
	}
	sig := of.Now()
	if !sig.Is(api.TmSig, 2) {
		return nil, api.ErrPair
	}
	if kind == api.TmFst {
		return sig.Arg(0), api.OK
	}
	return sig.Arg(1, eval.Of(api.TmFst, s.value(pair))), api.OK
}

func (s *scope) absurd(a, none *api.Term) (*eval.Later, api.Errno) {
	if _, e := s.sort(a); e != api.OK {
		return nil, e
	}
	if e := s.check(none, eval.Of(api.TmEmpty)); e != api.OK {
		return nil, e
	}
	return s.value(a), api.OK
}

// count is of TmRec, of C, z, s, and the number.
func (s *scope) count(c, zero, more, number *api.Term) (*eval.Later, api.Errno) {
	nat := eval.Of(api.TmNat)
	if _, e := s.sortWith(nat, c); e != api.OK {
		return nil, e
	}
	if e := s.check(zero, s.value(c, eval.Of(api.TmZero))); e != api.OK {
		return nil, e
	}
	if e := s.checkMore(c, more); e != api.OK {
		return nil, e
	}
	if e := s.check(number, nat); e != api.OK {
		return nil, e
	}
	return s.value(c, s.value(number)), api.OK
}

// checkMore is of s of a TmRec: where a number, and one of C of it, are bound, it must be of C of one more.
func (s *scope) checkMore(c, more *api.Term) api.Errno {
	n := eval.Free(len(s.types))
	want := s.value(c, eval.Of(api.TmSuc, n))
	came := s.value(c, n)
	s.bind(eval.Of(api.TmNat))
	s.bind(came)
	defer s.leave(2)
	return s.check(more, want)
}
