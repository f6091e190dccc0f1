package kernel

import (
	"bytes"
	"slices"
	"strings"
	"testing"

	"sortkernel/api"
	"sortkernel/decl"
)

// TestExample12: bytes that are taken; one byte that is none; bytes that are taken no more.
func TestExample12(t *testing.T) {
	b := []byte{3, 'o', 'n', 'e', 14, 16, 15}
	s := taken(t, api.Session{}, b, api.Decl{Name: "one", Type: nat, Body: one})
	s = comes(t, s, []byte{0}, api.Verdict{Err: api.ErrEnd}, "one")
	s = comes(t, s, b, api.Verdict{Err: api.ErrName}, "one")
	if want := []api.Verdict{{}, {Err: api.ErrEnd}, {Err: api.ErrName}}; !slices.Equal(s.Verdicts, want) {
		t.Errorf("%v", s.Verdicts)
	}
	if got := All([][]byte{b, {0}, b}); !same(got, s) {
		t.Errorf("%v, not %v", got, s)
	}
	if got := Bytes(s.Decls); len(got) != 1 || !bytes.Equal(got[0], b) {
		t.Errorf("%v", got)
	}
}

// TestL1DoTakes: what is taken comes last, and may be named from there on.
func TestL1DoTakes(t *testing.T) {
	s := ahead(t, 6)
	s = taken(t, s, called("two", api.TmNat, api.TmSuc, api.TmDef, 0), api.Decl{Name: "two", Type: nat, Body: m(api.TmSuc, def(0))})
	s = taken(t, s, called("three", api.TmNat, api.TmApp, api.TmApp, api.TmDef, 1, api.TmDef, 0, api.TmDef, 6), api.Decl{Name: "three", Type: nat, Body: m(api.TmApp, m(api.TmApp, def(1), def(0)), def(6))})
	s = taken(t, s, called("abcdefgh", api.TmU, 2, api.TmU, 1), api.Decl{Name: "abcdefgh", Type: u(2), Body: u(1)})
	s = taken(t, s, called("ty", api.TmDef, 8, api.TmU, 0), api.Decl{Name: "ty", Type: def(8), Body: u(0)})
	fun := m(api.TmPi, nat, m(api.TmApp, def(2), v(0)))
	body := m(api.TmLam, nat, m(api.TmRec, m(api.TmApp, def(2), v(0)), star, v(1), v(0)))
	s = taken(t, s, called("f", api.TmPi, api.TmNat, api.TmApp, api.TmDef, 2, api.TmVar, 0, api.TmLam, api.TmNat, api.TmRec, api.TmApp, api.TmDef, 2, api.TmVar, 0, api.TmStar, api.TmVar, 1, api.TmVar, 0), api.Decl{Name: "f", Type: fun, Body: body})
	s = taken(t, s, called("x", api.TmSig, api.TmNat, api.TmUnit, api.TmPair, api.TmNat, api.TmUnit, api.TmDef, 7, api.TmStar), api.Decl{Name: "x", Type: m(api.TmSig, nat, unit), Body: m(api.TmPair, nat, unit, def(7), star)})
	if len(s.Decls) != api.MaxDecls || !slices.Equal(s.Verdicts, ok(api.MaxDecls)) {
		t.Errorf("%v", s)
	}
}

// TestL1DoUnread: what is wrong with bytes that are no declaration has part 0, at whichever part it is.
func TestL1DoUnread(t *testing.T) {
	for _, s := range []api.Session{{}, ahead(t, 6)} {
		// The name, and what must be there of it.
		refused(t, s, nil, api.ErrEnd, 0)
		refused(t, s, []byte{}, api.ErrEnd, 0)
		for _, n := range []byte{1, 2, 8, 9, 255} {
			refused(t, s, []byte{n}, api.ErrEnd, 0)
			refused(t, s, append([]byte{n}, strings.Repeat("a", int(n)-1)...), api.ErrEnd, 0)
			refused(t, s, append([]byte{n}, strings.Repeat("a", int(n))...), api.ErrEnd, 0)
		}
		for _, wrong := range []struct {
			b []byte
			e api.Errno
		}{
			{nil, api.ErrEnd}, {[]byte{api.TmSuc}, api.ErrEnd}, {[]byte{api.TmVar}, api.ErrEnd}, {[]byte{api.TmU}, api.ErrEnd}, {[]byte{api.TmDef}, api.ErrEnd}, {sucs(5)[:5], api.ErrEnd},
			{[]byte{0}, api.ErrKind}, {[]byte{api.TmDef + 1}, api.ErrKind}, {[]byte{255}, api.ErrKind}, {[]byte{api.TmSuc, 0}, api.ErrKind}, {[]byte{api.TmPi, api.TmNat, 99}, api.ErrKind},
			{sucs(api.MaxDeep), api.ErrDeep}, {sucs(200), api.ErrDeep}, {sucs(api.MaxDeep)[:api.MaxDeep], api.ErrDeep},
		} {
			// Whether the name is one, or is taken, does not matter, nor what is wrong with the other part.
			for _, name := range []string{"x", "one", "nat", "", "A b", "abcdefghi"} {
				refused(t, s, append(called(name), wrong.b...), wrong.e, 0)
				for _, of := range [][]byte{{api.TmNat}, {api.TmZero}, {api.TmDef, 200}, {api.TmU, 255}, {api.TmApp, api.TmZero, api.TmZero}} {
					refused(t, s, slices.Concat(called(name), of, wrong.b), wrong.e, 0)
				}
			}
		}
		// Something behind it.
		for _, b := range [][]byte{called("x", api.TmNat, api.TmZero), called("one", api.TmNat, api.TmZero), called("", api.TmNat, api.TmZero), called("x", api.TmVar, 9, api.TmZero), called("x", api.TmNat, api.TmNat)} {
			for _, more := range []byte{0, api.TmNat, api.TmZero, 255} {
				refused(t, s, append(b[:len(b):len(b)], more), api.ErrForm, 0)
			}
		}
	}
}

// TestL1DoRefused: what is wrong with a declaration has the part at which it is.
func TestL1DoRefused(t *testing.T) {
	s := ahead(t, 6)
	for _, name := range []string{"", "A", "nat", "def", "abcdefghi", "a b", "\xff", "one", "id", strings.Repeat("a", 255)} {
		refused(t, s, called(name, api.TmNat, api.TmZero), api.ErrName, 0)
		refused(t, s, called(name, api.TmVar, 0, api.TmVar, 0), api.ErrName, 0)
	}
	star, wide := []byte{api.TmStar}, slices.Repeat([]byte{api.TmPair, api.TmNat, api.TmNat, api.TmNat}, 20)
	wide = append(wide, api.TmNat)
	for _, wrong := range []struct {
		b []byte
		e api.Errno
	}{
		{[]byte{api.TmVar, 0}, api.ErrRange}, {[]byte{api.TmDef, 6}, api.ErrRange}, {[]byte{api.TmDef, 255}, api.ErrRange}, {[]byte{api.TmU, 4}, api.ErrRange}, {[]byte{api.TmPi, api.TmNat, api.TmVar, 1}, api.ErrRange}, {wide, api.ErrMuch},
		{[]byte{api.TmU, 3}, api.ErrRange}, {[]byte{api.TmApp, api.TmZero, api.TmZero}, api.ErrFun}, {[]byte{api.TmFst, api.TmZero}, api.ErrPair}, {[]byte{api.TmPi, api.TmZero, api.TmNat}, api.ErrSort}, {[]byte{api.TmSuc, api.TmStar}, api.ErrType},
	} {
		refused(t, s, slices.Concat(called("x"), wrong.b, star), wrong.e, 1)
		refused(t, s, slices.Concat(called("x", api.TmUnit), wrong.b), wrong.e, 2)
		refused(t, s, slices.Concat(called("x"), wrong.b, wrong.b), wrong.e, 1)
		refused(t, s, slices.Concat(called("one"), wrong.b, wrong.b), api.ErrName, 0)
	}
	refused(t, s, called("x", api.TmZero, api.TmZero), api.ErrSort, 1)
	refused(t, s, called("x", api.TmZero, api.TmVar, 0), api.ErrRange, 2)
	refused(t, s, called("x", api.TmNat, api.TmStar), api.ErrType, 2)
	refused(t, s, called("x", api.TmU, 0, api.TmU, 0), api.ErrType, 2)
	refused(t, s, called("x", api.TmApp, api.TmDef, 2, api.TmDef, 0, api.TmStar), api.ErrType, 2)
}

// TestL1DoLimits: as much as may be, and one more.
func TestL1DoLimits(t *testing.T) {
	taken(t, api.Session{}, append(called("x", api.TmNat), sucs(api.MaxDeep-1)...), api.Decl{Name: "x", Type: nat, Body: deep(api.MaxDeep - 1)})
	refused(t, api.Session{}, append(called("x", api.TmNat), sucs(api.MaxDeep)...), api.ErrDeep, 0)
	var s api.Session
	for i := range api.MaxDecls {
		name := string(rune('a' + i))
		s = taken(t, s, called(name, api.TmNat, api.TmZero), api.Decl{Name: name, Type: nat, Body: zero})
	}
	refused(t, s, called("z", api.TmNat, api.TmZero), api.ErrMany, 0)
	refused(t, s, called("z", api.TmVar, 0, api.TmVar, 0), api.ErrMany, 0)
	refused(t, s, called("a", api.TmNat, api.TmZero), api.ErrName, 0)
	refused(t, s, called("z", api.TmNat), api.ErrEnd, 0)
	refused(t, s, called("z", api.TmNat, 0), api.ErrKind, 0)
	refused(t, s, called("z", api.TmNat, api.TmZero, 0), api.ErrForm, 0)
}

func deep(many int) api.Term {
	x := zero
	for range many {
		x = m(api.TmSuc, x)
	}
	return x
}

// TestL1DoGoesOn: what is refused leaves nothing but its verdict, whatever comes behind.
func TestL1DoGoesOn(t *testing.T) {
	a, b := called("a", api.TmNat, api.TmZero), called("b", api.TmNat, api.TmDef, 0)
	many, unfit := api.Verdict{Err: api.ErrRange, Part: 2}, api.Verdict{Err: api.ErrName}
	var s api.Session
	for _, step := range []struct {
		b     []byte
		v     api.Verdict
		names string
	}{
		{b, many, ""}, {nil, api.Verdict{Err: api.ErrEnd}, ""}, {called("a", api.TmNat, api.TmStar), api.Verdict{Err: api.ErrType, Part: 2}, ""}, {b, many, ""},
		{a, api.Verdict{}, "a"}, {a, unfit, "a"}, {called("b", api.TmZero, api.TmDef, 0), api.Verdict{Err: api.ErrSort, Part: 1}, "a"}, {a[:3], api.Verdict{Err: api.ErrEnd}, "a"},
		{b, api.Verdict{}, "a b"}, {b, unfit, "a b"}, {a, unfit, "a b"}, {append(b[:len(b):len(b)], 0), api.Verdict{Err: api.ErrForm}, "a b"}, {called("c", api.TmNat, api.TmDef, 2), many, "a b"}, {called("c", api.TmNat, api.TmDef, 1), api.Verdict{}, "a b c"},
	} {
		s = comes(t, s, step.b, step.v, step.names)
	}
	if len(s.Verdicts) != 14 {
		t.Errorf("%v", s.Verdicts)
	}
}

// TestL1Own: a copy has all that there is.
func TestL1Own(t *testing.T) {
	s := ahead(t, 6)
	s = comes(t, s, nil, api.Verdict{Err: api.ErrEnd}, "one add some next not id")
	s = comes(t, s, called("x", api.TmNat, api.TmStar), api.Verdict{Err: api.ErrType, Part: 2}, "one add some next not id")
	got := Own(s)
	want := append(ok(6), api.Verdict{Err: api.ErrEnd}, api.Verdict{Err: api.ErrType, Part: 2})
	if !sameDecls(got.Decls, base(6)) || !slices.Equal(got.Verdicts, want) {
		t.Errorf("%v", got)
	}
	// One of a few verdicts, and of nothing.
	for _, s := range []api.Session{{}, {Decls: []api.Decl{}, Verdicts: []api.Verdict{}}, Do(api.Session{}, nil), ahead(t, 1)} {
		if got := Own(s); !same(got, s) {
			t.Errorf("%v, not %v", got, s)
		}
	}
}

// TestL1All: verdicts of all, in turn, and of what is taken.
func TestL1All(t *testing.T) {
	for _, l := range [][][]byte{nil, {}} {
		if s := All(l); len(s.Decls) != 0 || len(s.Verdicts) != 0 {
			t.Errorf("%v", s)
		}
	}
	s := All([][]byte{nil, {}, {0}, {1}})
	if want := slices.Repeat([]api.Verdict{{Err: api.ErrEnd}}, 4); len(s.Decls) != 0 || !slices.Equal(s.Verdicts, want) {
		t.Errorf("%v", s)
	}
	l := Bytes(base(6))
	s = All(append(l[1:6:6], l...))
	unfit := api.Verdict{Err: api.ErrName}
	// What the fourth one names by a number is another one there.
	want := []api.Verdict{{}, {}, {Err: api.ErrRange, Part: 1}, {}, {}, {}, unfit, unfit, {Err: api.ErrType, Part: 1}, unfit, unfit}
	if strings.Join(decl.Names(s.Decls), " ") != "add some not id one" || !slices.Equal(s.Verdicts, want) {
		t.Errorf("%q, %v", decl.Names(s.Decls), s.Verdicts)
	}
}

// TestL1AllLong: however many there are, each one has its verdict.
func TestL1AllLong(t *testing.T) {
	l := Bytes(base(6))
	for range 50000 {
		l = append(l, l[5], nil, called("x", api.TmNat, api.TmStar), []byte{api.TmU})
	}
	s := All(l)
	if !sameDecls(s.Decls, base(6)) || len(s.Verdicts) != len(l) || !slices.Equal(s.Verdicts[:6], ok(6)) {
		t.Fatalf("%v, %d", s.Decls, len(s.Verdicts))
	}
	want := []api.Verdict{{Err: api.ErrName}, {Err: api.ErrEnd}, {Err: api.ErrType, Part: 2}, {Err: api.ErrEnd}}
	for i, v := range s.Verdicts[6:] {
		if v != want[i%4] {
			t.Fatalf("%d: %v", i, v)
		}
	}
}

// TestL1Bytes: how many bytes a name has, these, the type, and the body; of each one, in turn.
func TestL1Bytes(t *testing.T) {
	want := [][]byte{
		{3, 'o', 'n', 'e', 14, 16, 15},
		{3, 'a', 'd', 'd', 3, 14, 3, 14, 14, 4, 14, 4, 14, 17, 14, 1, 1, 16, 1, 0, 1, 0},
		{4, 's', 'o', 'm', 'e', 3, 14, 2, 0, 4, 14, 17, 2, 0, 10, 14, 1, 0},
		{4, 'n', 'e', 'x', 't', 3, 5, 18, 2, 18, 0, 14, 4, 14, 16, 1, 0},
		{3, 'n', 'o', 't', 3, 2, 0, 2, 0, 4, 2, 0, 3, 1, 0, 12},
		{2, 'i', 'd', 3, 2, 0, 3, 1, 0, 1, 1, 4, 2, 0, 4, 1, 0, 1, 0},
	}
	for many := range len(want) + 1 {
		if got := Bytes(base(many)); !slices.EqualFunc(got, want[:many], bytes.Equal) {
			t.Errorf("%v, not %v", got, want[:many])
		}
	}
	for _, l := range [][]api.Decl{nil, {}} {
		if got := Bytes(l); len(got) != 0 {
			t.Errorf("%v", got)
		}
	}
	// Nobody need have taken them.
	long := strings.Repeat("a", 255)
	l := []api.Decl{{Name: long, Type: zero, Body: u(3)}, {Type: def(255), Body: v(255)}, {Name: long, Type: zero, Body: u(3)}}
	all := [][]byte{append(append([]byte{255}, long...), 15, 2, 3), {0, 18, 255, 1, 255}, append(append([]byte{255}, long...), 15, 2, 3)}
	if got := Bytes(l); !slices.EqualFunc(got, all, bytes.Equal) {
		t.Errorf("%v", got)
	}
}
