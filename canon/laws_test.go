package canon

import (
	"strconv"
	"testing"

	"sortkernel/api"
	"sortkernel/conv"
	"sortkernel/eval"
	"sortkernel/infer"
	"sortkernel/needs"
	"sortkernel/step"
	"sortkernel/term"
)

// typed is a term, and its type.
type typed struct{ x, of api.Term }

// plainly is Show's answer as the chapter tells it, word by word: terms are put, and worked out at once.
// It is held here, too, that what is closed is what it must be.
func plainly(t *testing.T, l []api.Decl, x, of api.Term) string {
	t.Helper()
	x, of = eval.Normal(l, x, 0), eval.Normal(l, of, 0)
	must := func(kind int) {
		if x.Kind != kind {
			t.Fatalf("%v is of %v", x, of)
		}
	}
	switch of.Kind {
	case api.TmNat:
		n := 0
		for ; x.Kind == api.TmSuc; n++ {
			x = x.Args[0]
		}
		must(api.TmZero)
		return strconv.Itoa(n)
	case api.TmUnit:
		must(api.TmStar)
		return "*"
	case api.TmPi:
		must(api.TmLam)
		return "fn"
	case api.TmSig:
		must(api.TmPair)
		return "(" + plainly(t, l, x.Args[2], of.Args[0]) + ", " + plainly(t, l, x.Args[3], term.Put(of.Args[1], x.Args[2])) + ")"
	case api.TmU:
		return map[int]string{api.TmNat: "nat", api.TmUnit: "unit", api.TmEmpty: "empty", api.TmPi: "pi", api.TmSig: "sig", api.TmU: "U"}[x.Kind]
	}
	t.Fatalf("%v is of %v", x, of) // of nothing there is nothing
	return ""
}

// hold: of x, which is of type of, all calls answer what plainly does.
func hold(t *testing.T, l []api.Decl, x, of api.Term) string {
	t.Helper()
	want := plainly(t, l, x, of)
	if got := Show(l, x, of); got != want || want == "" {
		t.Fatalf("%v of %v: %q comes, not %q", x, of, got, want)
	}
	n, ok := Number(l, x)
	end := eval.Normal(l, x, 0)
	if ok != (of.Kind == api.TmNat) || ok && (!term.Same(end, Numeral(n)) || want != strconv.Itoa(n)) || !ok && n != 0 {
		t.Fatalf("%v: %d comes, %t", x, n, ok)
	}
	return want
}

// small are the right terms of just so many terms, of those leaves, where so many are bound.
func small(size, bound int, leaves []api.Term) []api.Term {
	var out []api.Term
	if size == 1 {
		for n := range bound {
			out = append(out, v(n))
		}
		return append(out, leaves...)
	}
	for kind := api.TmVar; kind <= api.TmDef; kind++ {
		binds, _ := term.Binds(kind)
		if len(binds) == 0 {
			continue
		}
		for _, args := range smallLists(size-1, bound, binds, leaves) {
			out = append(out, m(kind, args...))
		}
	}
	return out
}

func smallLists(size, bound int, binds []int, leaves []api.Term) [][]api.Term {
	if len(binds) == 0 {
		if size == 0 {
			return [][]api.Term{nil}
		}
		return nil
	}
	var out [][]api.Term
	for first := 1; first <= size-len(binds)+1; first++ {
		rest := smallLists(size-first, bound, binds[1:], leaves)
		for _, a := range small(first, bound+binds[0], leaves) {
			for _, l := range rest {
				out = append(out, append([]api.Term{a}, l...))
			}
		}
	}
	return out
}

// TestK1AllSmall: of all that are small, and have a type: none is of TmEmpty, and each number is one.
func TestK1AllSmall(t *testing.T) {
	l := taken(t, lines)
	all := []api.Term{u(0), u(1), u(2), u(3), unit, star, m(api.TmEmpty), nat, zero, def(2), def(4)}
	few := []api.Term{u(0), unit, star, nat, zero}
	kinds := map[int]int{}
	for size, leaves := range [][]api.Term{1: all, 2: all, 3: all, 4: all, 5: all, 6: few, 7: {nat, zero, star}} {
		for _, x := range small(size, 0, leaves) {
			if of, e := infer.Infer(l, nil, x); e == api.OK {
				hold(t, l, x, of)
				kinds[of.Kind]++
			}
		}
	}
	for kind, many := range map[int]int{api.TmNat: 100, api.TmUnit: 20, api.TmPi: 2000, api.TmSig: 70, api.TmU: 2000} {
		if kinds[kind] < many {
			t.Errorf("just %d are of kind %d", kinds[kind], kind)
		}
	}
}

// grower makes terms of others that have types; numbers that come of each other choose.
type grower struct {
	l    []api.Decl
	seed uint32
	pool []typed
}

func (g *grower) pick(many int) int {
	g.seed = g.seed*1664525 + 1013904223
	return int(g.seed>>16) % many
}

func (g *grower) any() typed { return g.pool[g.pick(len(g.pool))] }

// anyOf is one whose type is of that kind, if there is one soon.
func (g *grower) anyOf(kind int) typed {
	out := g.any()
	for range 60 {
		if out.of.Kind == kind {
			break
		}
		out = g.any()
	}
	return out
}

// fits is one of that type, if there is one soon.
func (g *grower) fits(of api.Term) api.Term {
	for range 60 {
		if one := g.any(); conv.SameType(g.l, nil, one.of, of) {
			return one.x
		}
	}
	return g.any().x
}

// next is a term of others; more often than not it has a type.
func (g *grower) next() api.Term {
	a, b := g.any(), g.any()
	number, one := g.anyOf(api.TmNat).x, term.Lift(b.of, 1, 0)
	switch g.pick(12) {
	case 0:
		return m(api.TmSuc, number)
	case 1:
		if f := g.anyOf(api.TmPi); f.of.Kind == api.TmPi {
			return m(api.TmApp, f.x, g.fits(f.of.Args[0]))
		}
	case 2, 3:
		return m(api.TmPair, a.of, one, a.x, b.x)
	case 4: // some
		some := m(api.TmApp, def(4), v(0))
		return m(api.TmPair, nat, some, number, g.fits(eval.Normal(g.l, term.Put(some, number), 0)))
	case 5:
		return m(api.TmPair, u(g.pick(3)), v(0), a.of, a.x)
	case 6:
		return m(api.TmFst, g.anyOf(api.TmSig).x)
	case 7:
		return m(api.TmSnd, g.anyOf(api.TmSig).x)
	case 8:
		return m(api.TmLam, a.of, []api.Term{v(0), term.Lift(b.x, 1, 0), m(api.TmPair, term.Lift(a.of, 1, 0), term.Lift(one, 1, 0), v(0), term.Lift(b.x, 1, 0))}[g.pick(3)])
	case 9:
		return m(api.TmRec, one, b.x, []api.Term{v(0), term.Lift(g.fits(b.of), 2, 0), m(api.TmSuc, v(0)), m(api.TmSuc, v(1))}[g.pick(4)], number)
	case 10:
		return m([]int{api.TmPi, api.TmSig}[g.pick(2)], g.anyOf(api.TmU).x, term.Lift(g.anyOf(api.TmU).x, 1, 0))
	}
	return m(api.TmApp, m(api.TmLam, a.of, v(0)), a.x)
}

// grown are terms that have a type, and are not too large.
func grown(t *testing.T, seed uint32, many int) *grower {
	g := &grower{l: taken(t, lines), seed: seed}
	for _, x := range []api.Term{zero, star, nat, unit, def(0), def(2), def(3), def(5), def(9), def(10), u(0)} {
		g.put(x)
	}
	for range many {
		if x := g.next(); term.Size(x) <= api.MaxSize {
			g.put(x)
		}
	}
	return g
}

func (g *grower) put(x api.Term) {
	if of, e := infer.Infer(g.l, nil, x); e == api.OK && term.Size(of) <= api.MaxSize && g.little(x) {
		g.pool = append(g.pool, typed{x, of})
	}
}

// little is whether x comes to no large number.
func (g *grower) little(x api.Term) bool { return term.Size(eval.Normal(g.l, x, 0)) < 500 }

// TestK1Grown: of what is grown, too; and with steps done, or not, and with bodies in the place of declarations.
func TestK1Grown(t *testing.T) {
	kinds, words := map[int]int{}, map[string]int{}
	for seed := range uint32(20) {
		g := grown(t, seed, 400)
		for _, y := range g.pool {
			s := hold(t, g.l, y.x, y.of)
			kinds[y.of.Kind]++
			words[s]++
			less, _ := step.Steps(g.l, y.x, 1+g.pick(5))
			hold(t, g.l, less, y.of)
			hold(t, nil, needs.Unfold(g.l, y.x), y.of)
			alone, ts := needs.Trim(g.l, y.x, y.of)
			hold(t, alone, ts[0], ts[1])
			if got := Show(g.l, y.x, m(api.TmFst, m(api.TmPair, u(2), unit, y.of, star))); got != s {
				t.Fatalf("%v: %q comes, not %q, if the type is to be worked out", y.x, got, s)
			}
		}
	}
	for kind, many := range map[int]int{api.TmNat: 1500, api.TmUnit: 100, api.TmPi: 1000, api.TmSig: 2000, api.TmU: 1000} {
		if kinds[kind] < many {
			t.Errorf("just %d are of kind %d", kinds[kind], kind)
		}
	}
	if len(words) < 600 {
		t.Errorf("just %d are shown as others are not", len(words))
	}
}

// TestK1SameIsShownTheSame: numbers are the same if they are one; what is the same, of whatever type, is shown the same.
func TestK1SameIsShownTheSame(t *testing.T) {
	alike, apart := 0, 0
	for seed := range uint32(6) {
		g := grown(t, 100+seed, 150)
		for i, a := range g.pool {
			for _, b := range g.pool[:i] {
				if !conv.SameType(g.l, nil, a.of, b.of) {
					continue
				}
				same := conv.Same(g.l, nil, a.x, b.x, a.of)
				shownSame := Show(g.l, a.x, a.of) == Show(g.l, b.x, b.of)
				if same && !shownSame || a.of.Kind == api.TmNat && same != shownSame {
					t.Fatalf("%v and %v: the same: %t, shown the same: %t", a.x, b.x, same, shownSame)
				}
				if same {
					alike++
				} else {
					apart++
				}
			}
		}
	}
	if alike < 2000 || apart < 5000 {
		t.Errorf("%d are the same, %d are not", alike, apart)
	}
}
