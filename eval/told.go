package eval

import (
	"sortkernel/api"
	"sortkernel/term"
)

// untold is a value that is still to be told as a term, at that place, where so many are bound.
type untold struct {
	at    *api.Term
	what  *Later
	bound int
}

// told is a value as a term, where so many are bound.
func told(what *Later, bound int) api.Term {
	var out api.Term
	// A list of what is left, and no calls within one another: terms may be deeper than calls can be.
	left := []untold{{&out, what, bound}}
	for len(left) > 0 {
		u := left[len(left)-1]
		left = tell(u, left[:len(left)-1])
	}
	return out
}

// tell tells u at its place, and puts its arguments to those that are left.
func tell(u untold, left []untold) []untold {
	v := u.what.Now()
	if v.Kind == api.TmVar {
		*u.at = api.Term{Kind: api.TmVar, N: u.bound - 1 - v.N}
		return left
	}
	*u.at = api.Term{Kind: v.Kind, N: v.N}
	if len(v.args) == 0 {
		return left
	}
	u.at.Args = make([]api.Term, len(v.args))
	for i := range v.args {
		binds := term.BindsAt(v.Kind, i)
		what := v.Arg(i, frees(u.bound, binds)...)
		left = append(left, untold{&u.at.Args[i], what, u.bound + binds})
	}
	return left
}

// frees are so many that are bound, of which no more is known, behind those that are ahead.
func frees(ahead, many int) []*Later {
	var out []*Later
	for i := range many {
		out = append(out, Free(ahead+i))
	}
	return out
}
