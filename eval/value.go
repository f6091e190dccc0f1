package eval

import "sortkernel/api"

// Value is a term at which there is no step, and comes none, whatever is done within it.
type Value struct {
	Kind int
	N    int // of TmVar: how many were bound ahead of it, which stays the same where more are bound
	args []arg
}

// arg is an argument of a value: plain, if it has none bound; else under, of those that it has bound.
type arg struct {
	plain *Later
	under func(bound ...*Later) doing
}

// Free is something that is bound, of which no more is known; so many were bound ahead of it.
func Free(ahead int) *Later {
	return known(&Value{Kind: api.TmVar, N: ahead})
}

// Height is TmU of that height.
func Height(n int) *Later {
	return known(&Value{Kind: api.TmU, N: n})
}

// Of is what a term of that kind comes to, of those; of kinds whose arguments have nothing bound.
func Of(kind int, args ...*Later) *Later {
	v := &Value{Kind: kind, args: make([]arg, len(args))}
	for i, a := range args {
		v.args[i].plain = a
	}
	return &Later{do: func(to then) next { return settle(v, to) }}
}

// Is is whether v is of that kind, and of so many.
func (v *Value) Is(kind, many int) bool {
	return v.Kind == kind && len(v.args) == many
}

// Arg is that argument of v, of those that it has bound.
func (v *Value) Arg(i int, bound ...*Later) *Later {
	if v.args[i].under == nil {
		return v.args[i].plain
	}
	return &Later{do: v.args[i].under(bound...)}
}

// settle does the step at v itself, if there is one as soon as it is known what v is of, and those behind it.
// That arguments are as many as they must be is asked, as package step asks it.
func settle(v *Value, to then) next {
	switch {
	case v.Is(api.TmApp, 2):
		return call(v, to)
	case v.Is(api.TmFst, 1):
		return half(v, 2, to)
	case v.Is(api.TmSnd, 1):
		return half(v, 3, to)
	case v.Is(api.TmRec, 4):
		return count(v, to)
	}
	return next{to, v}
}

func call(app *Value, to then) next {
	return app.args[0].plain.ask(func(f *Value) next {
		if f.Is(api.TmLam, 2) {
			return f.args[1].under(app.args[1].plain)(to)
		}
		return next{to, app}
	})
}

// half is of TmFst, or TmSnd, which is that argument of a TmPair.
func half(v *Value, arg int, to then) next {
	return v.args[0].plain.ask(func(pair *Value) next {
		if pair.Is(api.TmPair, 4) {
			return pair.args[arg].plain.ask(to)
		}
		return next{to, v}
	})
}

func count(rec *Value, to then) next {
	return rec.args[3].plain.ask(func(number *Value) next {
		if number.Is(api.TmZero, 0) {
			return rec.args[1].plain.ask(to)
		}
		if number.Is(api.TmSuc, 1) {
			n := number.args[0].plain
			return rec.args[2].under(n, came(rec, n))(to)
		}
		return next{to, rec}
	})
}

// came is what a TmRec comes to, of n and not of its own number.
func came(rec *Value, n *Later) *Later {
	less := &Value{Kind: api.TmRec, args: []arg{rec.args[0], rec.args[1], rec.args[2], {plain: n}}}
	return &Later{do: func(to then) next { return count(less, to) }}
}
