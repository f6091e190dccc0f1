package decl

import (
	"math"
	"testing"
	"time"

	"sortkernel/api"
	"sortkernel/infer"
	"sortkernel/term"
	"sortkernel/text"
)

// fault is a part of a declaration, and what is wrong with it: by itself, and as a type, or of type nat.
type fault struct {
	x              api.Term
	wrong, untyped api.Errno
}

// faults are terms with which anything is wrong that can be, behind one that fits.
func faults(t *testing.T, l []api.Decl, fits api.Term) []fault {
	large := nat
	for range 7 {
		large = m(api.TmPi, large, large)
	}
	return []fault{
		{fits, api.OK, api.OK},
		{under(nat, api.MaxDeep), api.ErrDeep, api.OK},
		{none, api.ErrKind, api.OK},
		{m(api.TmSuc), api.ErrMany, api.OK},
		{v(0), api.ErrRange, api.OK},
		{def(len(l)), api.ErrRange, api.OK},
		{api.Term{Kind: api.TmU, N: api.MaxU + 1}, api.ErrRange, api.OK},
		{large, api.ErrMuch, api.OK},
		{read(t, l, "U3"), api.OK, api.ErrRange},
		{read(t, l, "(suc star)"), api.OK, api.ErrType},
		{read(t, l, "(zero zero)"), api.OK, api.ErrFun},
		{read(t, l, "(fst zero)"), api.OK, api.ErrPair},
		{read(t, l, "(pi zero n nat)"), api.OK, api.ErrSort},
	}
}

// TestH1Turn: of several errors the first one is told, as the chapter names them; of any of them that may be together.
func TestH1Turn(t *testing.T) {
	first := func(l ...api.Verdict) api.Verdict {
		for _, v := range l {
			if v.Err != api.OK {
				return v
			}
		}
		return api.Verdict{}
	}
	for _, many := range []int{0, 1, api.MaxDecls - 1, api.MaxDecls, api.MaxDecls + 1} {
		l := numbered(many)
		var full api.Errno
		if many >= api.MaxDecls {
			full = api.ErrMany
		}
		for _, name := range []string{"x", "a", "suc", ""} {
			var unfit api.Errno
			if name == "suc" || name == "" || name == "a" && many > 0 {
				unfit = api.ErrName
			}
			for _, of := range append(faults(t, l, nat), fault{zero, api.OK, api.ErrSort}) {
				for _, body := range append(faults(t, l, zero), fault{nat, api.OK, api.ErrType}) {
					want := first(api.Verdict{Err: unfit}, api.Verdict{Err: full}, api.Verdict{Err: of.wrong, Part: 1}, api.Verdict{Err: body.wrong, Part: 2}, api.Verdict{Err: of.untyped, Part: 1}, api.Verdict{Err: body.untyped, Part: 2})
					d := api.Decl{Name: name, Type: of.x, Body: body.x}
					if want.Err == api.OK {
						taken(t, l, d)
						continue
					}
					refused(t, l, d, want.Err, want.Part)
				}
			}
		}
	}
}

// TestH1Wrong: of what is no declaration at all nothing panics, and no call goes on for ever.
func TestH1Wrong(t *testing.T) {
	loop, wide := m(api.TmLam, nat, nat), m(api.TmPair, nat, nat, nat, nat)
	loop.Args[1] = loop
	wide.Args[0], wide.Args[3] = wide, wide
	many := m(api.TmApp, make([]api.Term, 100000)...)
	for _, c := range []struct {
		x    api.Term
		want api.Errno
	}{
		{loop, api.ErrDeep}, {wide, api.ErrDeep}, {m(api.TmSuc, loop), api.ErrDeep}, {many, api.ErrMany}, {m(api.TmNat, nat), api.ErrMany}, {m(api.TmRec, nat, zero, zero), api.ErrMany},
		{none, api.ErrKind}, {m(-1), api.ErrKind}, {m(19), api.ErrKind}, {m(math.MaxInt), api.ErrKind}, {m(math.MinInt), api.ErrKind}, {m(api.TmSuc, none), api.ErrKind},
		{v(math.MaxInt), api.ErrRange}, {v(math.MinInt), api.ErrRange}, {def(math.MaxInt), api.ErrRange}, {def(math.MinInt), api.ErrRange}, {api.Term{Kind: api.TmU, N: -1}, api.ErrRange}, {api.Term{Kind: api.TmU, N: math.MaxInt}, api.ErrRange},
		{api.Term{Kind: api.TmNat, N: 1}, api.ErrRange}, {api.Term{Kind: api.TmSuc, N: -1, Args: []api.Term{zero}}, api.ErrRange},
	} {
		for _, l := range [][]api.Decl{nil, {}, base(t, 6)} {
			refused(t, l, api.Decl{Name: "x", Type: c.x, Body: zero}, c.want, 1)
			refused(t, l, api.Decl{Name: "x", Type: nat, Body: c.x}, c.want, 2)
			refused(t, l, api.Decl{Name: "x", Type: c.x, Body: c.x}, c.want, 1)
			refused(t, l, api.Decl{Type: c.x, Body: c.x}, api.ErrName, 0)
		}
		got, verdicts := All([]api.Decl{{Name: "x", Type: c.x, Body: zero}, {Name: "x", Type: nat, Body: c.x}, {Name: "x", Type: nat, Body: zero}, {Name: "x", Type: c.x}})
		if len(got) != 1 || len(verdicts) != 4 || verdicts[0] != (api.Verdict{Err: c.want, Part: 1}) || verdicts[1] != (api.Verdict{Err: c.want, Part: 2}) || verdicts[2] != (api.Verdict{}) || verdicts[3] != (api.Verdict{Err: api.ErrName}) {
			t.Errorf("%d: %q, %v", c.want, Names(got), verdicts)
		}
	}
	refused(t, nil, api.Decl{}, api.ErrName, 0)
	refused(t, nil, api.Decl{Name: "x"}, api.ErrKind, 1)
	refused(t, nil, api.Decl{Name: "x", Type: nat}, api.ErrKind, 2)
	refused(t, nil, api.Decl{Name: "x", Body: zero}, api.ErrKind, 1)
}

// TestH1NoEnd: what is no type is not worked out, nor is a body that has none: these come to no end.
func TestH1NoEnd(t *testing.T) {
	twice := read(t, nil, "(fn nat f (f f))")
	ever := m(api.TmApp, twice, twice)
	done := make(chan bool)
	go func() {
		refused(t, nil, api.Decl{Name: "x", Type: ever, Body: zero}, api.ErrFun, 1)
		refused(t, nil, api.Decl{Name: "x", Type: nat, Body: ever}, api.ErrFun, 2)
		refused(t, nil, api.Decl{Name: "x", Type: ever, Body: ever}, api.ErrFun, 1)
		close(done)
	}()
	select {
	case <-done:
	case <-time.After(time.Minute):
		t.Fatal("no end")
	}
}

// plainly is Add's verdict, as the chapter tells it.
func plainly(l []api.Decl, d api.Decl) api.Verdict {
	if !text.Name(d.Name) {
		return api.Verdict{Err: api.ErrName}
	}
	for _, ahead := range l {
		if ahead.Name == d.Name {
			return api.Verdict{Err: api.ErrName}
		}
	}
	if len(l) >= api.MaxDecls {
		return api.Verdict{Err: api.ErrMany}
	}
	if e := term.Wrong(d.Type, 0, len(l)); e != api.OK {
		return api.Verdict{Err: e, Part: 1}
	}
	if e := term.Wrong(d.Body, 0, len(l)); e != api.OK {
		return api.Verdict{Err: e, Part: 2}
	}
	if _, e := infer.Sort(l, nil, d.Type); e != api.OK {
		return api.Verdict{Err: e, Part: 1}
	}
	if e := infer.Check(l, nil, d.Body, d.Type); e != api.OK {
		return api.Verdict{Err: e, Part: 2}
	}
	return api.Verdict{}
}

// hold: of d, behind l, Add answers what plainly does; it is answered whether d is taken.
func hold(t *testing.T, l []api.Decl, d api.Decl) bool {
	t.Helper()
	want := plainly(l, d)
	got, v := Add(l, d)
	after := l
	if want.Err == api.OK {
		after = append(l[:len(l):len(l)], d)
	}
	if v != want || !sameDecls(got, after) {
		t.Fatalf("%v, behind %q: %v comes, not %v, and %v", d, Names(l), v, want, got)
	}
	return want.Err == api.OK
}

// TestH1AllSmall: whatever is small is taken, or not, as plainly tells, as a type, and as a body.
func TestH1AllSmall(t *testing.T) {
	for _, c := range []struct{ ahead, most, types, bodies int }{{0, 5, 7, 250}, {6, 5, 10, 250}} {
		l := base(t, c.ahead)
		kinds := []api.Term{nat, m(api.TmU), read(t, l, "U1"), read(t, l, "(pi nat n nat)")}
		types, bodies := 0, 0
		each(nil, c.most, func(x api.Term) {
			for _, body := range []api.Term{zero, m(api.TmStar), nat} {
				if hold(t, l, api.Decl{Name: "x", Type: x, Body: body}) {
					types++
				}
			}
			for _, of := range kinds {
				if hold(t, l, api.Decl{Name: "x", Type: of, Body: x}) {
					bodies++
				}
			}
		})
		if types < c.types || bodies < c.bodies {
			t.Errorf("behind %d just %d types, and %d bodies", c.ahead, types, bodies)
		}
	}
}

// TestH1NobodyProves: nothing that is small is taken to be of a type that nothing is of.
func TestH1NobodyProves(t *testing.T) {
	l := base(t, 6)
	var nothing []api.Term
	for _, s := range []string{"empty", "(not unit)", "(not (not empty))", "(pi U0 a a)", "(pi nat n empty)", "(sig nat n empty)", "(pi nat n (not (some n)))"} {
		nothing = append(nothing, read(t, l, s))
	}
	each(nil, 5, func(x api.Term) {
		for _, of := range nothing {
			if _, v := Add(l, api.Decl{Name: "x", Type: of, Body: x}); v.Part != 2 {
				t.Fatalf("%v, of %v: %v comes", x, of, v)
			}
		}
	})
}
