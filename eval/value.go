package eval

import "sortkernel/api"

// value is a term at which there is no step, and comes none, whatever is done within it.
type value struct {
	kind int
	n    int // of TmVar: how many were bound ahead of it, which stays the same where more are bound
	args []arg
}

// arg is an argument of a value: plain, if it has none bound; else under, of those that it has bound.
type arg struct {
	plain *later
	under func(bound ...*later) doing
}

// free is something that is bound, of which no more is known; so many were bound ahead of it.
func free(ahead int) *later {
	return known(&value{kind: api.TmVar, n: ahead})
}

func (v *value) is(kind, many int) bool {
	return v.kind == kind && len(v.args) == many
}

// settle does the step at v itself, if there is one as soon as it is known what v is of, and those behind it.
// That arguments are as many as they must be is asked, as package step asks it.
func settle(v *value, to then) next {
	switch {
	case v.is(api.TmApp, 2):
		return call(v, to)
	case v.is(api.TmFst, 1):
		return half(v, 2, to)
	case v.is(api.TmSnd, 1):
		return half(v, 3, to)
	case v.is(api.TmRec, 4):
		return count(v, to)
	}
	return next{to, v}
}

func call(app *value, to then) next {
	return app.args[0].plain.ask(func(f *value) next {
		if f.is(api.TmLam, 2) {
			return f.args[1].under(app.args[1].plain)(to)
		}
		return next{to, app}
	})
}

// half is of TmFst, or TmSnd, which is that argument of a TmPair.
func half(v *value, arg int, to then) next {
	return v.args[0].plain.ask(func(pair *value) next {
		if pair.is(api.TmPair, 4) {
			return pair.args[arg].plain.ask(to)
		}
		return next{to, v}
	})
}

func count(rec *value, to then) next {
	return rec.args[3].plain.ask(func(number *value) next {
		if number.is(api.TmZero, 0) {
			return rec.args[1].plain.ask(to)
		}
		if number.is(api.TmSuc, 1) {
			n := number.args[0].plain
			return rec.args[2].under(n, came(rec, n))(to)
		}
		return next{to, rec}
	})
}

// came is what a TmRec comes to, of n and not of its own number.
func came(rec *value, n *later) *later {
	less := &value{kind: api.TmRec, args: []arg{rec.args[0], rec.args[1], rec.args[2], {plain: n}}}
	return &later{do: func(to then) next { return count(less, to) }}
}
