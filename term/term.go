// Package term has terms: see doc/01-term.md.
package term

import "sortkernel/api"

// Binds is how many each argument of a kind has bound; false, if there is no such kind.
func Binds(kind int) ([]int, bool) {
	many, ok := arity(kind)
	if !ok {
		return nil, false
	}
	out := make([]int, many)
	for i := range out {
		out[i] = BindsAt(kind, i)
	}
	return out, true
}

// arity is how many arguments a kind has; false, if there is no such kind. Walks ask for it, and for BindsAt,
// at every term, and need no list of Binds for it.
func arity(kind int) (int, bool) {
	switch kind {
	case api.TmVar, api.TmU, api.TmUnit, api.TmStar, api.TmEmpty, api.TmNat, api.TmZero, api.TmDef:
		return 0, true
	case api.TmFst, api.TmSnd, api.TmSuc:
		return 1, true
	case api.TmApp, api.TmAbsurd, api.TmPi, api.TmLam, api.TmSig:
		return 2, true
	case api.TmPair, api.TmRec:
		return 4, true
	}
	return 0, false
}

// BindsAt is how many that argument of a kind has bound; 0, if there is no such argument, or no such kind.
func BindsAt(kind, arg int) int {
	switch kind {
	case api.TmPi, api.TmLam, api.TmSig, api.TmPair:
		if arg == 1 {
			return 1
		}
	case api.TmRec:
		if arg == 0 {
			return 1
		}
		if arg == 2 {
			return 2
		}
	}
	return 0
}

// Same is whether a and b are the same, field by field; they need not be right.
func Same(a, b api.Term) bool {
	if a.Kind != b.Kind || a.N != b.N || len(a.Args) != len(b.Args) {
		return false
	}
	for i := range a.Args {
		if !Same(a.Args[i], b.Args[i]) {
			return false
		}
	}
	return true
}

// Size is how many terms are in t, and t; it need not be right.
func Size(t api.Term) int {
	n := 1
	for _, a := range t.Args {
		n += Size(a)
	}
	return n
}

// Copy is t in new memory: no list of it is one of t's, nor are two of them the same one; t need not be right.
func Copy(t api.Term) api.Term {
	out := api.Term{Kind: t.Kind, N: t.N}
	if len(t.Args) == 0 {
		return out
	}
	out.Args = make([]api.Term, len(t.Args))
	for i, a := range t.Args {
		out.Args[i] = Copy(a)
	}
	return out
}

// Wrong is what is wrong with t, where so many are bound, and declared; OK, if t is right.
func Wrong(t api.Term, bound, decls int) api.Errno {
	fits := func(t api.Term, within int) bool {
		switch t.Kind {
		case api.TmVar:
			// Not N < bound+within: that sum may be more than an int holds.
			return t.N >= 0 && t.N-within < bound
		case api.TmU:
			return t.N >= 0 && t.N <= api.MaxU
		case api.TmDef:
			return t.N >= 0 && t.N < decls
		}
		return t.N == 0
	}
	if e := firstWrong(t, 0, 0, fits); e != api.OK {
		return e
	}
	if Size(t) > api.MaxSize {
		return api.ErrMuch
	}
	return api.OK
}

// firstWrong is the first error of t and of what is in it, where so many terms are around t, and have bound
// so many within; fits tells whether a term's N is in its range there.
func firstWrong(t api.Term, around, within int, fits func(t api.Term, within int) bool) api.Errno {
	if around >= api.MaxDeep {
		return api.ErrDeep
	}
	many, ok := arity(t.Kind)
	if !ok {
		return api.ErrKind
	}
	if len(t.Args) != many {
		return api.ErrMany
	}
	if !fits(t, within) {
		return api.ErrRange
	}
	for i, a := range t.Args {
		if e := firstWrong(a, around+1, within+BindsAt(t.Kind, i), fits); e != api.OK {
			return e
		}
	}
	return api.OK
}
