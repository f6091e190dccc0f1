package infer

import (
	"sortkernel/api"
	"sortkernel/conv"
	"sortkernel/eval"
	"sortkernel/term"
)

// scope is where a term stands. Types are values: they are worked out no further than they are looked at, and need
// not be lifted where more is bound. What a value is made of was found to have a type ahead of it: so it has an end.
type scope struct {
	decls []api.Decl
	none  *eval.Maker   // makes values where nothing is bound
	types []*eval.Later // of those that are bound, the first one first
}

// newScope is where nothing is bound.
func newScope(decls []api.Decl) *scope {
	return &scope{decls: decls, none: eval.NewMaker(decls, 0)}
}

// scopeOf is where those of ctx are bound, which is right.
func scopeOf(decls []api.Decl, ctx []api.Term) *scope {
	s := newScope(decls)
	for i := range ctx {
		s.bind(s.value(&ctx[i]))
	}
	return s
}

// bind has one more of that type bound, and answers it.
func (s *scope) bind(of *eval.Later) *eval.Later {
	s.types = append(s.types, of)
	return eval.Free(len(s.types) - 1)
}

// leave has the last so many bound no more. Behind an error nobody needs to: nothing is looked at any more.
func (s *scope) leave(many int) {
	s.types = s.types[:len(s.types)-many]
}

// maker makes values there.
func (s *scope) maker() *eval.Maker {
	return s.none.Where(len(s.types))
}

// value is t's there, where those are bound behind.
func (s *scope) value(t *api.Term, behind ...*eval.Later) *eval.Later {
	return s.maker().Later(t, behind...)
}

// check is OK, if t is of that type.
func (s *scope) check(t *api.Term, want *eval.Later) api.Errno {
	of, e := s.infer(t)
	if e != api.OK {
		return e
	}
	if !conv.SameTypeValues(s.types, of, want) {
		return api.ErrType
	}
	return api.OK
}

// sort is t's height, if t is a type.
func (s *scope) sort(t *api.Term) (int, api.Errno) {
	of, e := s.infer(t)
	if e != api.OK {
		return 0, e
	}
	height := of.Now()
	if !height.Is(api.TmU, 0) {
		return 0, api.ErrSort
	}
	return height.N, api.OK
}

// sortWith is sort, where one of that type is bound.
func (s *scope) sortWith(of *eval.Later, t *api.Term) (int, api.Errno) {
	s.bind(of)
	defer s.leave(1)
	return s.sort(t)
}

// wrong is what is wrong with t itself: with its kind, or how many arguments it has. Of right terms that is nothing;
// others are no reason to panic.
func wrong(t *api.Term) api.Errno {
	binds, ok := term.Binds(t.Kind)
	if !ok {
		return api.ErrKind
	}
	if len(t.Args) != len(binds) {
		return api.ErrMany
	}
	return api.OK
}
