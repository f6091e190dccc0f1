package term

import "sortkernel/api"

// Lift is t, where the number of free ones is greater by that, but of the last so many.
func Lift(t api.Term, by, last int) api.Term {
	// What is bound within t is not free, even if last is below 0.
	last = max(last, 0)
	return mapVars(t, 0, func(n, within int) api.Term {
		if n-within >= last {
			n += by
		}
		return variable(n)
	})
}

// Put is t, where what was bound last, outside of it, is u, and bound no more.
func Put(t, u api.Term) api.Term {
	return mapVars(t, 0, func(n, within int) api.Term {
		if n == within {
			return Lift(u, within, 0)
		}
		if n > within {
			n--
		}
		return variable(n)
	})
}

// Uses is whether t has the free one that was bound n binders ago, outside of it.
func Uses(t api.Term, n int) bool {
	// Below 0 are those that are bound within t.
	if n < 0 {
		return false
	}
	return anyVar(t, 0, func(m, within int) bool { return m-within == n })
}

func variable(n int) api.Term {
	return api.Term{Kind: api.TmVar, N: n}
}

// mapVars is t with f's answer in the place of each TmVar; f is told its N, and how many are bound around it within t.
// All lists are made anew, so that an answer shares nothing with what was handed in, nor with itself.
func mapVars(t api.Term, within int, f func(n, within int) api.Term) api.Term {
	if t.Kind == api.TmVar {
		return f(t.N, within)
	}
	out := api.Term{Kind: t.Kind, N: t.N}
	if len(t.Args) == 0 {
		return out
	}
	out.Args = make([]api.Term, len(t.Args))
	for i, a := range t.Args {
		out.Args[i] = mapVars(a, within+BindsAt(t.Kind, i), f)
	}
	return out
}

// anyVar is whether f holds of some TmVar of t; f is told what mapVars tells it.
func anyVar(t api.Term, within int, f func(n, within int) bool) bool {
	if t.Kind == api.TmVar {
		return f(t.N, within)
	}
	for i, a := range t.Args {
		if anyVar(a, within+BindsAt(t.Kind, i), f) {
			return true
		}
	}
	return false
}
