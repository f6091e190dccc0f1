package infer

import (
	"testing"

	"sortkernel/api"
	"sortkernel/conv"
	"sortkernel/eval"
	"sortkernel/term"
)

// plain finds types as the chapter tells it, word by word, and term by term: types are terms, which are lifted, put,
// and worked out at once. By this the package, which has values, is held.
type plain struct {
	decls []api.Decl
	ctx   []api.Term
}

func (p plain) with(a api.Term) plain {
	p.ctx = append(p.ctx[:len(p.ctx):len(p.ctx)], a)
	return p
}

func (p plain) normal(t api.Term) api.Term { return eval.Normal(p.decls, t, len(p.ctx)) }

func (p plain) sort(t api.Term) (int, api.Errno) {
	of, e := p.infer(t)
	if e != api.OK {
		return 0, e
	}
	if of.Kind != api.TmU {
		return 0, api.ErrSort
	}
	return of.N, api.OK
}

func (p plain) check(t, want api.Term) api.Errno {
	of, e := p.infer(t)
	if e != api.OK {
		return e
	}
	if !conv.SameType(p.decls, p.ctx, of, want) {
		return api.ErrType
	}
	return api.OK
}

// last is an errno of several that are asked in turn, each only if the one ahead of it is OK.
func last(l ...func() api.Errno) api.Errno {
	for _, f := range l {
		if e := f(); e != api.OK {
			return e
		}
	}
	return api.OK
}

func (p plain) isSort(t api.Term) func() api.Errno {
	return func() api.Errno {
		_, e := p.sort(t)
		return e
	}
}

// isOf asks for want only once those ahead are OK.
func (p plain) isOf(t api.Term, want func() api.Term) func() api.Errno {
	return func() api.Errno { return p.check(t, want()) }
}

func just(t api.Term) func() api.Term { return func() api.Term { return t } }

func put(t, u api.Term) func() api.Term { return func() api.Term { return term.Put(t, u) } }

// infer is of terms whose types are worked out where nothing is wrong.
func (p plain) infer(t api.Term) (api.Term, api.Errno) {
	of, e := p.raw(t)
	if e != api.OK {
		return api.Term{}, e
	}
	return p.normal(of), api.OK
}

func (p plain) raw(t api.Term) (api.Term, api.Errno) {
	a := t.Args
	switch t.Kind {
	case api.TmVar:
		return term.Lift(p.ctx[len(p.ctx)-1-t.N], t.N+1, 0), api.OK
	case api.TmDef:
		return p.decls[t.N].Type, api.OK
	case api.TmU:
		if t.N == api.MaxU {
			return t, api.ErrRange
		}
		return u(t.N + 1), api.OK
	case api.TmUnit, api.TmEmpty, api.TmNat:
		return u(0), api.OK
	case api.TmStar:
		return unit, api.OK
	case api.TmZero:
		return nat, api.OK
	case api.TmSuc:
		return nat, p.check(a[0], nat)
	case api.TmPi, api.TmSig:
		if e := last(p.isSort(a[0]), p.with(a[0]).isSort(a[1])); e != api.OK {
			return t, e
		}
		first, _ := p.sort(a[0])
		second, _ := p.with(a[0]).sort(a[1])
		return u(max(first, second)), api.OK
	case api.TmLam:
		if _, e := p.sort(a[0]); e != api.OK {
			return t, e
		}
		b, e := p.with(a[0]).infer(a[1])
		return m(api.TmPi, a[0], b), e
	case api.TmApp:
		f, e := p.infer(a[0])
		if e != api.OK {
			return t, e
		}
		if f.Kind != api.TmPi {
			return t, api.ErrFun
		}
		return term.Put(f.Args[1], a[1]), p.check(a[1], f.Args[0])
	}
	return p.rawOthers(t)
}

func (p plain) rawOthers(t api.Term) (api.Term, api.Errno) {
	a := t.Args
	switch t.Kind {
	case api.TmPair:
		return m(api.TmSig, a[0], a[1]), last(p.isSort(a[0]), p.with(a[0]).isSort(a[1]), p.isOf(a[2], just(a[0])), p.isOf(a[3], put(a[1], a[2])))
	case api.TmFst, api.TmSnd:
		of, e := p.infer(a[0])
		if e != api.OK {
			return t, e
		}
		if of.Kind != api.TmSig {
			return t, api.ErrPair
		}
		if t.Kind == api.TmFst {
			return of.Args[0], api.OK
		}
		return term.Put(of.Args[1], m(api.TmFst, a[0])), api.OK
	case api.TmAbsurd:
		return a[0], last(p.isSort(a[0]), p.isOf(a[1], just(empty)))
	case api.TmRec:
		number := p.with(nat)
		more := term.Put(term.Lift(a[0], 2, 1), m(api.TmSuc, v(1)))
		return term.Put(a[0], a[3]), last(number.isSort(a[0]), p.isOf(a[1], put(a[0], zero)), number.with(a[0]).isOf(a[2], just(more)), p.isOf(a[3], just(nat)))
	}
	return t, api.ErrKind
}

// hold: of x all calls answer what plain does; it is answered whether x has a type, and which.
func (p *place) hold(x api.Term) (api.Term, api.Errno) {
	p.t.Helper()
	as := plain{p.decls, p.ctx}
	want, wantErr := as.infer(x)
	got, e := Infer(p.decls, p.ctx, x)
	if e != wantErr || !term.Same(got, want) {
		p.t.Fatalf("Infer of %v (%s): %v comes, %d, not %v, %d", x, p.written(x), got, e, want, wantErr)
	}
	wantSort, wantErr := as.sort(x)
	if n, e := Sort(p.decls, p.ctx, x); e != wantErr || n != wantSort {
		p.t.Fatalf("Sort of %v (%s): %d comes, %d, not %d, %d", x, p.written(x), n, e, wantSort, wantErr)
	}
	return got, e
}

// small are the right terms of just so many terms, of those leaves, where so many are bound.
func small(size, bound int, leaves []api.Term) []api.Term {
	var out []api.Term
	if size == 1 {
		for n := range bound {
			out = append(out, v(n))
		}
		return append(out, leaves...)
	}
	for kind := api.TmVar; kind <= api.TmDef; kind++ {
		binds, _ := term.Binds(kind)
		if len(binds) == 0 {
			continue
		}
		for _, args := range smallLists(size-1, bound, binds, leaves) {
			out = append(out, m(kind, args...))
		}
	}
	return out
}

func smallLists(size, bound int, binds []int, leaves []api.Term) [][]api.Term {
	if len(binds) == 0 {
		if size == 0 {
			return [][]api.Term{nil}
		}
		return nil
	}
	var out [][]api.Term
	for first := 1; first <= size-len(binds)+1; first++ {
		rest := smallLists(size-first, bound, binds[1:], leaves)
		for _, a := range small(first, bound+binds[0], leaves) {
			for _, l := range rest {
				out = append(out, append([]api.Term{a}, l...))
			}
		}
	}
	return out
}

// TestG2AllSmall: all that are small, with a type or none, are as plain tells.
func TestG2AllSmall(t *testing.T) {
	all := []api.Term{u(0), u(2), u(3), unit, star, empty, nat, zero, def(2)}
	few := []api.Term{u(0), u(3), unit, star, zero, nat}
	for _, c := range []struct {
		p      *place
		size   int
		leaves []api.Term
		typed  int // so many have a type, at least
	}{
		{at(t), 5, all, 2000},
		{at(t), 6, few, 600},
		{at(t, "a", "nat", "f", "(pi nat n nat)"), 5, few, 600},
		{at(t, "v", "U0", "x", "v"), 5, few, 1000},
		{at(t, "w", "(pi nat n U0)", "p", "(sig nat n (w n))"), 5, all, 2000},
		{at(t, "e", "empty", "h", "(pi nat n (some n))"), 5, all, 2000},
		{at(t, "e", "empty"), 6, []api.Term{u(0), nat, zero}, 300},
		{at(t, "w", "(pi nat n U0)", "h", "(pi nat n (w n))"), 6, []api.Term{nat, zero}, 100},
	} {
		typed := 0
		for size := 1; size <= c.size; size++ {
			for _, x := range small(size, len(c.p.ctx), c.leaves) {
				if _, e := c.p.hold(x); e == api.OK {
					typed++
				}
			}
		}
		if typed < c.typed {
			t.Errorf("%v: just %d have types", c.p.names, typed)
		}
	}
}
