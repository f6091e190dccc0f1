package conv

import (
	"sortkernel/api"
	"sortkernel/eval"
)

// outer are two values that hang on one of their arguments, and can be no more while that is stuck.
type outer struct {
	a, b *eval.Value
}

// stuck is whether a and b are stuck alike, but for what they leave. Each hangs on what is within it, down to what is
// bound; types are known from there on outwards.
func (h *hold) stuck(a, b *eval.Value) bool {
	var around []outer
	for at := hangs(a, b); at >= 0; at = hangs(a, b) {
		around = append(around, outer{a, b})
		a, b = a.Arg(at).Now(), b.Arg(at).Now()
	}
	if !alike(a, b, api.TmVar, 0) || a.N != b.N {
		return false
	}
	of := h.typeOf(a.N)
	for i := len(around) - 1; i >= 0 && of != nil; i-- {
		of = h.outwards(around[i], of.Now())
	}
	return of != nil
}

// hangs is the argument on which both hang; -1, if that is none, or not the same one.
func hangs(a, b *eval.Value) int {
	switch {
	case alike(a, b, api.TmApp, 2), alike(a, b, api.TmFst, 1), alike(a, b, api.TmSnd, 1):
		return 0
	case alike(a, b, api.TmAbsurd, 2):
		return 1
	case alike(a, b, api.TmRec, 4):
		return 3
	}
	return -1
}

// outwards is x's type, where what x hangs on is stuck alike, of type t; nil, if t is not as it must be.
// Of b nothing is in it: it is the same as what is of a, or nothing hangs on the type.
func (h *hold) outwards(x outer, t *eval.Value) *eval.Later {
	switch {
	case x.a.Kind == api.TmAbsurd:
		h.mustType(x.a.Arg(0), x.b.Arg(0))
		return x.a.Arg(0)
	case x.a.Kind == api.TmRec:
		return h.counted(x)
	case x.a.Kind == api.TmApp && t.Is(api.TmPi, 2):
		h.must(x.a.Arg(1), x.b.Arg(1), t.Arg(0))
		return t.Arg(1, x.a.Arg(1))
	case x.a.Kind == api.TmFst && t.Is(api.TmSig, 2):
		return t.Arg(0)
	case x.a.Kind == api.TmSnd && t.Is(api.TmSig, 2):
		return t.Arg(1, eval.Of(api.TmFst, x.a.Arg(0)))
	}
	return nil
}

// counted is outwards, of TmRec.
func (h *hold) counted(x outer) *eval.Later {
	n := h.bind(eval.Of(api.TmNat))
	c := x.a.Arg(0, n)
	came := h.bind(c)
	h.mustType(c, x.b.Arg(0, n))
	h.must(x.a.Arg(1), x.b.Arg(1), x.a.Arg(0, eval.Of(api.TmZero)))
	h.must(x.a.Arg(2, n, came), x.b.Arg(2, n, came), x.a.Arg(0, eval.Of(api.TmSuc, n)))
	return x.a.Arg(0, x.a.Arg(3))
}
