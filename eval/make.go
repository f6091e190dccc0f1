package eval

import (
	"sortkernel/api"
	"sortkernel/term"
)

// Maker makes values of terms, where so many are bound, and those are declared.
type Maker struct {
	bound int
	defs  []*Later
}

// within is what is bound around a part of a term, within it: the last one, and those ahead of it.
type within struct {
	last  *Later
	ahead *within
}

// NewMaker has each declaration worked out once at most, however often it is named.
func NewMaker(decls []api.Decl, bound int) *Maker {
	m := &Maker{bound: bound, defs: make([]*Later, len(decls))}
	for i := range decls {
		m.defs[i] = m.later(&decls[i].Body, nil)
	}
	return m
}

// Where is a maker where so many are bound, with the declarations of m: what was worked out of these stays so.
func (m *Maker) Where(bound int) *Maker {
	return &Maker{bound: bound, defs: m.defs}
}

// Later is t's value, where those are bound behind those that m knows of. It is made of t as t is when it is asked for.
func (m *Maker) Later(t *api.Term, behind ...*Later) *Later {
	return m.later(t, further(nil, behind))
}

// Under is what a term of a kind with two arguments, of which the second one has one bound, comes to: of a, and of b,
// which stands where one is bound behind those that m knows of. Of kinds at which there is never a step.
func (m *Maker) Under(kind int, a, b *Later) *Later {
	var t *api.Term // b as a term, once something else is bound than where b stands
	under := func(bound ...*Later) doing {
		if bound[0].isFree(m.bound) {
			return b.ask
		}
		return func(to then) next {
			if t == nil {
				x := told(b, m.bound+1)
				t = &x
			}
			return m.value(t, further(nil, bound), to)
		}
	}
	return known(&Value{Kind: kind, args: []arg{{plain: a}, {under: under}}})
}

// Told is a value as a term, where those are bound that m knows of.
func (m *Maker) Told(what *Later) api.Term {
	return told(what, m.bound)
}

// further is what is bound within in, and those behind it.
func further(in *within, bound []*Later) *within {
	for _, b := range bound {
		in = &within{last: b, ahead: in}
	}
	return in
}

// later is t's value, within those. A TmVar's is that of what it means, and none of its own: else more and more of
// them would stand between the one who asks and what is there.
func (m *Maker) later(t *api.Term, in *within) *Later {
	if t.Kind == api.TmVar {
		return m.meant(t.N, in)
	}
	return &Later{do: func(to then) next { return m.value(t, in, to) }}
}

// meant is what was bound n binders ago.
func (m *Maker) meant(n int, in *within) *Later {
	for ; in != nil; in = in.ahead {
		if n == 0 {
			return in.last
		}
		n--
	}
	return Free(m.bound - 1 - n)
}

// value works t's value out.
func (m *Maker) value(t *api.Term, in *within, to then) next {
	if t.Kind == api.TmVar {
		return m.meant(t.N, in).ask(to)
	}
	if t.Kind == api.TmDef && t.N >= 0 && t.N < len(m.defs) {
		return m.defs[t.N].ask(to)
	}
	v := &Value{Kind: t.Kind, N: t.N, args: make([]arg, len(t.Args))}
	for i := range t.Args {
		v.args[i] = m.arg(&t.Args[i], in, term.BindsAt(t.Kind, i))
	}
	return settle(v, to)
}

// arg is t as an argument that has so many bound.
func (m *Maker) arg(t *api.Term, in *within, binds int) arg {
	if binds == 0 {
		return arg{plain: m.later(t, in)}
	}
	return arg{under: func(bound ...*Later) doing {
		inner := further(in, bound)
		return func(to then) next { return m.value(t, inner, to) }
	}}
}
