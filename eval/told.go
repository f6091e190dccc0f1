package eval

import (
	"sortkernel/api"
	"sortkernel/term"
)

// untold is a value that is still to be told as a term, at that place, where so many are bound.
type untold struct {
	at    *api.Term
	what  *later
	bound int
}

// told is a value as a term, where so many are bound.
func told(what *later, bound int) api.Term {
	var out api.Term
	// A list of what is left, and no calls within one another: terms may be deeper than calls can be.
	left := []untold{{&out, what, bound}}
	for len(left) > 0 {
		u := left[len(left)-1]
		left = tell(u, left[:len(left)-1])
	}
	return out
}

// tell tells u at its place, and puts its arguments to those that are left.
func tell(u untold, left []untold) []untold {
	v := u.what.now()
	if v.kind == api.TmVar {
		*u.at = api.Term{Kind: api.TmVar, N: u.bound - 1 - v.n}
		return left
	}
	*u.at = api.Term{Kind: v.kind, N: v.n}
	if len(v.args) == 0 {
		return left
	}
	u.at.Args = make([]api.Term, len(v.args))
	for i, a := range v.args {
		binds := term.BindsAt(v.kind, i)
		left = append(left, untold{&u.at.Args[i], open(a, u.bound, binds), u.bound + binds})
	}
	return left
}

// open is an argument that has so many bound: of these no more is known than that.
func open(a arg, bound, binds int) *later {
	if binds == 0 {
		return a.plain
	}
	var these []*later
	for i := range binds {
		these = append(these, free(bound+i))
	}
	return &later{do: a.under(these...)}
}
