package needs

import (
	"slices"
	"testing"

	"sortkernel/api"
	"sortkernel/conv"
	"sortkernel/decl"
	"sortkernel/eval"
	"sortkernel/infer"
	"sortkernel/term"
)

// picker chooses by numbers that come of each other.
type picker uint32

func (p *picker) pick(many int) int {
	*p = *p*1664525 + 1013904223
	return int(*p>>16) % many
}

// anyTerm is a right term, that need not have a type, where so many are bound, and declared.
func (p *picker) anyTerm(depth, bound, decls int) api.Term {
	kind := 1 + p.pick(api.TmDef)
	binds, _ := term.Binds(kind)
	switch {
	case depth <= 0 && len(binds) > 0, kind == api.TmVar && bound == 0, kind == api.TmDef && decls == 0:
		return nat
	case kind == api.TmVar:
		return v(p.pick(bound))
	case kind == api.TmDef:
		return def(p.pick(decls))
	case kind == api.TmU:
		return api.Term{Kind: kind, N: p.pick(api.MaxU + 1)}
	}
	out := api.Term{Kind: kind}
	for _, more := range binds {
		out.Args = append(out.Args, p.anyTerm(depth-1, bound+more, decls))
	}
	return out
}

// typed is a right term where so many are declared, and none is bound; many have a type.
func (p *picker) typed(decls int) api.Term {
	some := func() api.Term {
		if decls == 0 {
			return nat
		}
		return def(p.pick(decls))
	}
	pool := []api.Term{nat, zero, some(), some(), some(), m(api.TmSuc, some()), m(api.TmApp, some(), some()), m(api.TmApp, some(), zero),
		m(api.TmLam, some(), v(0)), m(api.TmLam, nat, some()), m(api.TmPi, some(), some()), m(api.TmSig, some(), nat), m(api.TmPi, nat, some()),
		m(api.TmPair, some(), some(), some(), some()), m(api.TmPair, nat, nat, some(), some()), m(api.TmFst, some()), m(api.TmSnd, some()),
		m(api.TmRec, nat, some(), m(api.TmSuc, v(0)), some()), m(api.TmRec, m(api.TmU), some(), nat, some()), m(api.TmU), m(api.TmStar), m(api.TmUnit),
		m(api.TmLam, some(), m(api.TmApp, some(), v(0)))}
	return pool[p.pick(len(pool))]
}

// mixed are declarations that were taken.
func mixed(p *picker) []api.Decl {
	var l []api.Decl
	for range 120 {
		d := api.Decl{Name: string(rune('a' + len(l))), Type: p.typed(len(l)), Body: p.typed(len(l))}
		// Else few would be taken, and these would not be much.
		if of, e := infer.Infer(l, nil, d.Body); e == api.OK && p.pick(3) > 0 {
			d.Type = of
		}
		l, _ = decl.Add(l, d)
	}
	return l
}

// fit are those of terms by some numbers that have a type, and their types.
func fit(p *picker, l []api.Decl) (ts, ofs []api.Term) {
	for range 30 {
		x := p.typed(len(l))
		of, e := infer.Infer(l, nil, x)
		if e == api.OK {
			ts, ofs = append(ts, x), append(ofs, of)
		}
	}
	return ts, ofs
}

// TestJ1Plainly: whatever is declared, the answers are those of a plain reading.
func TestJ1Plainly(t *testing.T) {
	sizes, many := map[int]int{}, 0
	for seed := range picker(300) {
		p := seed
		l := mixed(&p)
		for range 40 {
			ts := make([]api.Term, p.pick(4))
			for i := range ts {
				ts[i] = p.anyTerm(1+p.pick(3), 3, len(l))
				if got := Unfold(l, ts[i]); !term.Same(got, oneByOne(l, ts[i])) {
					t.Fatalf("%v: %v comes", ts[i], got)
				}
			}
			got, want := Of(l, ts...), plainly(l, ts)
			if !slices.Equal(got, want) {
				t.Fatalf("%v: %v comes, not %v", ts, got, want)
			}
			sizes[len(got)]++
			if len(got) > 0 && len(got) < len(l) {
				many++
			}
			trimmed(t, l, ts)
		}
	}
	for size := range 7 {
		if sizes[size] < 20 {
			t.Errorf("%d are needed %d times", size, sizes[size])
		}
	}
	if many < 1000 {
		t.Errorf("some are needed, and some are not, %d times", many)
	}
}

// trimmed: what Trim answers is as it was, but for numbers, and each one is needed then.
func trimmed(t *testing.T, l []api.Decl, ts []api.Term) {
	t.Helper()
	alone, us := Trim(l, ts...)
	numbers := Of(l, ts...)
	if !slices.Equal(decl.Names(alone), called(l, numbers)) || len(us) != len(ts) {
		t.Fatalf("%v: %v comes, and %v", ts, alone, us)
	}
	// With each one's number what it was, all is what it was.
	was := func(x api.Term) api.Term { return mapDefs(x, func(n int) api.Term { return def(numbers[n]) }) }
	for i, d := range alone {
		if !term.Same(was(d.Type), l[numbers[i]].Type) || !term.Same(was(d.Body), l[numbers[i]].Body) {
			t.Fatalf("%v: %v comes", l[numbers[i]], d)
		}
	}
	for i := range us {
		if !term.Same(was(us[i]), ts[i]) || !term.Same(Unfold(alone, us[i]), Unfold(l, ts[i])) {
			t.Fatalf("%v: %v comes", ts[i], us[i])
		}
	}
	if again, vs := Trim(alone, us...); !sameDecls(again, alone) || !sameTerms(vs, us) {
		t.Fatalf("%v: again it is %v, and %v", ts, again, vs)
	}
}

// TestJ1WithThoseAlone: with those alone, it is the same: what they are, of which type, and what they come to.
func TestJ1WithThoseAlone(t *testing.T) {
	many := 0
	for seed := range picker(200) {
		p := seed
		l := mixed(&p)
		ts, ofs := fit(&p, l)
		for i, x := range ts {
			alone, us := Trim(l, x)
			if again, vs := decl.All(alone); !sameDecls(again, alone) || slices.ContainsFunc(vs, func(v api.Verdict) bool { return v != api.Verdict{} }) {
				t.Fatalf("%v: %v are taken, %v", alone, again, vs)
			}
			if of, e := infer.Infer(alone, nil, us[0]); e != api.OK || !term.Same(of, ofs[i]) {
				t.Fatalf("%v: %v comes, %d, not %v", x, of, e, ofs[i])
			}
			if got := eval.Normal(alone, us[0], 0); !term.Same(got, eval.Normal(l, x, 0)) {
				t.Fatalf("%v: it comes to %v", x, got)
			}
			if len(alone) > 1 && len(alone) < len(l) {
				many++
			}
		}
	}
	if many < 500 {
		t.Errorf("that is so of %d", many)
	}
}

// TestJ1WithoutThem: without them, it is the same.
func TestJ1WithoutThem(t *testing.T) {
	many := 0
	for seed := range picker(200) {
		p := seed
		l := mixed(&p)
		ts, ofs := fit(&p, l)
		for i, x := range ts {
			got := Unfold(l, x)
			if len(Of(l, got)) != 0 || !term.Same(Unfold(l, got), got) || !term.Same(Unfold(nil, got), got) {
				t.Fatalf("%v: %v comes", x, got)
			}
			if e := infer.Check(nil, nil, got, ofs[i]); e != api.OK {
				t.Fatalf("%v: %v is not of %v: %d", x, got, ofs[i], e)
			}
			if !term.Same(eval.Normal(nil, got, 0), eval.Normal(l, x, 0)) || !conv.Same(l, nil, x, got, ofs[i]) {
				t.Fatalf("%v: %v is something else", x, got)
			}
			if len(Of(l, x)) > 1 {
				many++
			}
		}
	}
	if many < 500 {
		t.Errorf("that is so of %d", many)
	}
}

// TestJ1Together: of several terms it is what any of them needs, in whatever turn; with more there it stays.
func TestJ1Together(t *testing.T) {
	for seed := range picker(100) {
		p := seed
		l := mixed(&p)
		k := p.pick(len(l) + 1)
		a, b := p.anyTerm(3, 2, k), p.anyTerm(3, 2, k)
		both := slices.Concat(Of(l, a), Of(l, b))
		slices.Sort(both)
		both = slices.Compact(both)
		if !slices.Equal(Of(l, a, b), both) || !slices.Equal(Of(l, b, a, b), both) || !slices.Equal(Of(l, m(api.TmApp, b, a)), both) {
			t.Fatalf("%v, %v: %v", a, b, Of(l, a, b))
		}
		if !slices.Equal(Of(l[:k], a, b), both) || !term.Same(Unfold(l[:k], a), Unfold(l, a)) {
			t.Fatalf("%v, %v, of %d: %v", a, b, k, Of(l[:k], a, b))
		}
	}
}

// TestJ1OnlyReads: what is handed in is only read; on its spare room nothing hangs.
func TestJ1OnlyReads(t *testing.T) {
	for seed := range picker(100) {
		p := seed
		plain := mixed(&p)
		ts := []api.Term{p.anyTerm(3, 3, len(plain)), nat, p.anyTerm(2, 3, len(plain)), def(p.pick(len(plain)))}
		l, us := roomyDecls(plain), roomyTerms(ts)
		numbers := Of(l, us...)
		alone, of := Trim(l, us...)
		want, wants := Trim(plain, ts...)
		if !slices.Equal(numbers, Of(plain, ts...)) || !sameDecls(alone, want) || !sameTerms(of, wants) {
			t.Fatalf("%v: spare room matters", ts)
		}
		for i := range us {
			x := Unfold(l, us[i])
			if !term.Same(x, Unfold(plain, ts[i])) {
				t.Fatalf("%v: spare room matters", ts[i])
			}
			spoil(x)
		}
		spoilDecls(alone)
		spoil(api.Term{Args: of})
		if !sameRoomDecls(l, roomyDecls(plain)) || !sameRoom(api.Term{Args: us}, api.Term{Args: roomyTerms(ts)}) {
			t.Fatalf("%v: what is handed in is changed", ts)
		}
	}
}

// TestJ1NewMemory: once what was handed in is changed, what was answered stays.
func TestJ1NewMemory(t *testing.T) {
	l := taken(t, lines)
	handed := func() ([]api.Decl, []api.Term) {
		return roomyDecls(l), roomyTerms([]api.Term{m(api.TmPi, nat, m(api.TmApp, v(0), v(1))), m(api.TmApp, def(8), def(5)), zero})
	}
	ahead, ts := handed()
	numbers := Of(ahead, ts...)
	alone, us := Trim(ahead, ts...)
	xs := []api.Term{Unfold(ahead, ts[0]), Unfold(ahead, ts[1])}
	spoilDecls(ahead)
	spoil(api.Term{Args: ts})
	ahead, ts = handed()
	want, wants := Trim(ahead, ts...)
	if !slices.Equal(numbers, Of(ahead, ts...)) || !sameDecls(alone, want) || !sameTerms(us, wants) {
		t.Errorf("%v, %v, %v", numbers, alone, us)
	}
	if !sameTerms(xs, []api.Term{Unfold(ahead, ts[0]), Unfold(ahead, ts[1])}) {
		t.Errorf("%v", xs)
	}
}

// TestJ1ListsApart: no two lists of answers are one, nor is one of what was handed in, even if it is there twice.
func TestJ1ListsApart(t *testing.T) {
	l := taken(t, "(def both U0 (sig nat n nat))\n(def four U0 (sig both n both))\n(def fun (pi both n U0) (fn both n four))")
	twice := m(api.TmSig, def(0), m(api.TmSig, nat, nat))
	ts := []api.Term{twice, m(api.TmApp, def(2), twice), twice, m(api.TmSuc, def(1))}
	alone, us := Trim(l, ts...)
	again, vs := Trim(l, ts...)
	if len(alone) != 3 || len(us) != 4 || &us[0] == &ts[0] || &alone[0] == &l[0] || &alone[0] == &again[0] || &us[0] == &vs[0] {
		t.Fatalf("%v, %v", alone, us)
	}
	many := map[*api.Term]int{}
	for _, d := range slices.Concat(l, alone, again) {
		lists(d.Type, many)
		lists(d.Body, many)
	}
	all := slices.Concat(us, vs, []api.Term{Unfold(l, twice), Unfold(l, ts[1]), Unfold(l, ts[3]), Unfold(l, m(api.TmApp, def(2), def(2)))})
	for _, x := range all {
		lists(x, many)
	}
	lists(twice, many)
	for at, n := range many {
		if n > 1 {
			t.Errorf("%v is there %d times", *at, n)
		}
	}
	// What is put behind one answer is in no other one.
	a, b := Of(l, def(2)), Of(l, def(2))
	_, _ = append(a, 5), append(alone, api.Decl{})
	a[0] = 7
	if !slices.Equal(b, Of(l, def(2))) || len(b) != 3 {
		t.Errorf("%v", b)
	}
}

// TestJ1Wrong: of terms that are not right, and of declarations that nobody took, nothing is promised; but no call panics,
// and each one ends.
func TestJ1Wrong(t *testing.T) {
	ring := []api.Decl{{Name: "a", Type: def(0), Body: def(1)}, {Name: "b", Type: def(2), Body: m(api.TmApp, def(0), def(1))}, {Name: "", Type: def(-1), Body: def(3)}}
	for _, l := range [][]api.Decl{nil, ring, taken(t, lines)} {
		for _, x := range []api.Term{{}, def(-1), def(len(l)), def(1 << 62), def(0), def(1), def(2), v(-1), m(99, def(1), def(2)), m(api.TmDef, def(0)), m(api.TmSuc), m(api.TmPi, def(77)), m(api.TmRec, def(0), def(1))} {
			Of(l, x, x)
			Trim(l, x, x)
			Unfold(l, x)
		}
	}
	if got := Of(nil, def(0), def(-1)); len(got) != 0 {
		t.Errorf("%v", got)
	}
	if got := Of(ring, def(3), def(-1)); len(got) != 0 {
		t.Errorf("%v", got)
	}
}
