package eval

import (
	"sortkernel/api"
	"sortkernel/term"
)

// maker makes values of terms, where so many are bound, and those are declared.
type maker struct {
	bound int
	defs  []*later
}

// within is what is bound around a part of a term, within it: the last one, and those ahead of it.
type within struct {
	last  *later
	ahead *within
}

// newMaker has each declaration worked out once at most, however often it is named.
func newMaker(decls []api.Decl, bound int) *maker {
	m := &maker{bound: bound, defs: make([]*later, len(decls))}
	for i := range decls {
		m.defs[i] = m.later(&decls[i].Body, nil)
	}
	return m
}

// later is t's value. A TmVar's is that of what it means, and none of its own: else more and more of them
// would stand between the one who asks and what is there.
func (m *maker) later(t *api.Term, in *within) *later {
	if t.Kind == api.TmVar {
		return m.meant(t.N, in)
	}
	return &later{do: func(to then) next { return m.value(t, in, to) }}
}

// meant is what was bound n binders ago.
func (m *maker) meant(n int, in *within) *later {
	for ; in != nil; in = in.ahead {
		if n == 0 {
			return in.last
		}
		n--
	}
	return free(m.bound - 1 - n)
}

// value works t's value out.
func (m *maker) value(t *api.Term, in *within, to then) next {
	if t.Kind == api.TmVar {
		return m.meant(t.N, in).ask(to)
	}
	if t.Kind == api.TmDef && t.N >= 0 && t.N < len(m.defs) {
		return m.defs[t.N].ask(to)
	}
	v := &value{kind: t.Kind, n: t.N, args: make([]arg, len(t.Args))}
	for i := range t.Args {
		v.args[i] = m.arg(&t.Args[i], in, term.BindsAt(t.Kind, i))
	}
	return settle(v, to)
}

// arg is t as an argument that has so many bound.
func (m *maker) arg(t *api.Term, in *within, binds int) arg {
	if binds == 0 {
		return arg{plain: m.later(t, in)}
	}
	return arg{under: func(bound ...*later) doing {
		inner := in
		for _, b := range bound {
			inner = &within{last: b, ahead: inner}
		}
		return func(to then) next { return m.value(t, inner, to) }
	}}
}
