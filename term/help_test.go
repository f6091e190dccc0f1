package term

import (
	"strconv"
	"strings"

	"sortkernel/api"
)

func v(n int) api.Term { return api.Term{Kind: api.TmVar, N: n} }

func u(n int) api.Term { return api.Term{Kind: api.TmU, N: n} }

func def(n int) api.Term { return api.Term{Kind: api.TmDef, N: n} }

func m(kind int, args ...api.Term) api.Term { return api.Term{Kind: kind, Args: args} }

var (
	nat  = m(api.TmNat)
	zero = m(api.TmZero)
	none = m(0) // of a kind that is none
)

// under is t with so many TmSuc around it.
func under(t api.Term, many int) api.Term {
	for range many {
		t = m(api.TmSuc, t)
	}
	return t
}

// sized is a term of just so many terms, as flat as two arguments let it be.
func sized(many int) api.Term {
	switch many {
	case 1:
		return nat
	case 2:
		return m(api.TmSuc, nat)
	}
	left := (many - 1) / 2
	return m(api.TmApp, sized(left), sized(many-1-left))
}

// told writes t with the free ones by their names, and those that are bound within it by their numbers:
// by this, and not by numbers, the tests hold against each other what terms mean.
func told(t api.Term, within int, names []string) string {
	if t.Kind == api.TmVar {
		if t.N < within {
			return "#" + strconv.Itoa(t.N)
		}
		return names[t.N-within]
	}
	out := []string{strconv.Itoa(t.Kind) + "." + strconv.Itoa(t.N)}
	bound, _ := Binds(t.Kind)
	for i, a := range t.Args {
		out = append(out, told(a, within+bound[i], names))
	}
	return "(" + strings.Join(out, " ") + ")"
}

// rights are the right terms of just so many terms, where so many are bound, and one is declared.
func rights(size, bound int) []api.Term {
	var out []api.Term
	if size == 1 {
		for n := range bound {
			out = append(out, v(n))
		}
		return append(out, nat, u(2), def(0))
	}
	for _, kind := range []int{api.TmSuc, api.TmLam, api.TmApp, api.TmPair, api.TmRec} {
		binds, _ := Binds(kind)
		for _, args := range lists(size-1, bound, binds) {
			out = append(out, m(kind, args...))
		}
	}
	return out
}

// lists are the lists of arguments, of just so many terms in all.
func lists(size, bound int, binds []int) [][]api.Term {
	if len(binds) == 0 {
		if size == 0 {
			return [][]api.Term{nil}
		}
		return nil
	}
	var out [][]api.Term
	for first := 1; first <= size-len(binds)+1; first++ {
		rest := lists(size-first, bound, binds[1:])
		for _, a := range rights(first, bound+binds[0]) {
			for _, l := range rest {
				out = append(out, append([]api.Term{a}, l...))
			}
		}
	}
	return out
}

// upTo are the right terms of so many terms at most.
func upTo(size, bound int) []api.Term {
	var out []api.Term
	for n := 1; n <= size; n++ {
		out = append(out, rights(n, bound)...)
	}
	return out
}
