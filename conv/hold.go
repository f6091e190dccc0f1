package conv

import (
	"sortkernel/api"
	"sortkernel/eval"
)

// hold holds values against each other: normal forms, which are worked out no further than they are looked at.
//
// Two values leave parts of theirs that must be the same. These are a list, and no calls within one another: what
// terms come to may be deeper than calls can be. As all of them must be the same, any may be looked at first.
type hold struct {
	left  []both
	ahead []*eval.Later // types of those that are bound ahead of all, the first one first; only read
	types []*eval.Later // of those that were bound since
}

// both are two values that must be the same: of that type; as types, if there is none.
type both struct {
	a, b, of *eval.Later
}

// bind is something of that type of which no more is known. Nothing that is bound gives its number free again: so
// what is left needs no contexts of its own, and what is bound in one part is not to be found in another.
func (h *hold) bind(of *eval.Later) *eval.Later {
	h.types = append(h.types, of)
	return eval.Free(len(h.ahead) + len(h.types) - 1)
}

// typeOf is the type of what so many were bound ahead of; nil, if there is none.
func (h *hold) typeOf(n int) *eval.Later {
	switch since := n - len(h.ahead); {
	case n < 0 || since >= len(h.types):
		return nil
	case since < 0:
		return h.ahead[n]
	default:
		return h.types[since]
	}
}

func (h *hold) must(a, b, of *eval.Later) {
	h.left = append(h.left, both{a, b, of})
}

func (h *hold) mustType(a, b *eval.Later) {
	h.left = append(h.left, both{a: a, b: b})
}

// all is whether all that must be the same is.
func (h *hold) all() bool {
	for len(h.left) > 0 {
		last := len(h.left) - 1
		x := h.left[last]
		h.left = h.left[:last]
		if !h.one(x) {
			return false
		}
	}
	return true
}

// one is whether x is the same, but for what it leaves.
func (h *hold) one(x both) bool {
	if x.of == nil {
		return h.asTypes(x)
	}
	switch t := x.of.Now(); {
	case t.Is(api.TmPi, 2):
		h.functions(x, t)
	case t.Is(api.TmSig, 2):
		h.pairs(x, t)
	case t.Is(api.TmUnit, 0):
	case t.Is(api.TmU, 0):
		return h.asTypes(x)
	default:
		return h.asNumbers(x)
	}
	return true
}

// functions of type t are the same if they are of anything.
func (h *hold) functions(x both, t *eval.Value) {
	of := h.bind(t.Arg(0))
	h.must(eval.Of(api.TmApp, x.a, of), eval.Of(api.TmApp, x.b, of), t.Arg(1, of))
}

// pairs of type t are the same if their halves are.
func (h *hold) pairs(x both, t *eval.Value) {
	first := eval.Of(api.TmFst, x.a)
	h.must(first, eval.Of(api.TmFst, x.b), t.Arg(0))
	h.must(eval.Of(api.TmSnd, x.a), eval.Of(api.TmSnd, x.b), t.Arg(1, first))
}

func (h *hold) asTypes(x both) bool {
	a, b := x.a.Now(), x.b.Now()
	switch {
	case alike(a, b, api.TmU, 0):
		return a.N == b.N
	case alike(a, b, api.TmUnit, 0), alike(a, b, api.TmEmpty, 0), alike(a, b, api.TmNat, 0):
		return true
	case alike(a, b, api.TmPi, 2), alike(a, b, api.TmSig, 2):
		h.mustType(a.Arg(0), b.Arg(0))
		of := h.bind(a.Arg(0))
		h.mustType(a.Arg(1, of), b.Arg(1, of))
		return true
	}
	return h.stuck(a, b)
}

// asNumbers is of numbers, and of types that nothing is of but what is stuck.
func (h *hold) asNumbers(x both) bool {
	a, b := x.a.Now(), x.b.Now()
	switch {
	case alike(a, b, api.TmZero, 0):
		return true
	case alike(a, b, api.TmSuc, 1):
		h.must(a.Arg(0), b.Arg(0), x.of)
		return true
	}
	return h.stuck(a, b)
}

// alike is whether both are of that kind. That they are of so many as they must be is asked, too: of terms that are
// not right nothing is promised, but that is no reason to panic.
func alike(a, b *eval.Value, kind, many int) bool {
	return a.Is(kind, many) && b.Is(kind, many)
}
