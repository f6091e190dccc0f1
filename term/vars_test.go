package term

import (
	"math"
	"slices"
	"strings"
	"testing"

	"sortkernel/api"
)

// free are names of what is bound outside of terms, the last one first.
var free = []string{"=a", "=b", "=c", "=d", "=e", "=f"}

func same(t *testing.T, what string, got, want api.Term) {
	t.Helper()
	if !Same(got, want) {
		t.Errorf("%s: %v comes, not %v", what, got, want)
	}
}

func TestA2Lift(t *testing.T) {
	rec := func(c, z, s, n int) api.Term {
		return m(api.TmRec, v(c), v(z), m(api.TmApp, v(0), v(s)), v(n))
	}
	for _, c := range []struct {
		t        api.Term
		by, last int
		want     api.Term
	}{
		{v(0), 3, 0, v(3)}, {v(0), 3, 1, v(0)}, {v(1), 3, 1, v(4)}, {v(5), 0, 0, v(5)},
		{nat, 3, 0, nat}, {u(2), 3, 0, u(2)}, {def(1), 3, 0, def(1)},
		{m(api.TmLam, v(0), v(0)), 2, 0, m(api.TmLam, v(2), v(0))},
		{m(api.TmLam, v(0), v(1)), 2, 0, m(api.TmLam, v(2), v(3))},
		{m(api.TmLam, v(1), v(1)), 2, 1, m(api.TmLam, v(3), v(1))},
		{m(api.TmPi, v(1), v(2)), 2, 1, m(api.TmPi, v(3), v(4))},
		{m(api.TmPair, v(0), v(0), v(0), v(0)), 1, 0, m(api.TmPair, v(1), v(0), v(1), v(1))},
		{rec(0, 0, 1, 0), 1, 0, rec(0, 1, 1, 1)},
		{rec(1, 1, 2, 1), 4, 0, rec(5, 5, 6, 5)},
		{rec(1, 1, 2, 1), 4, 1, rec(1, 5, 2, 5)},
		{m(api.TmLam, nat, m(api.TmLam, nat, v(2))), 1, 0, m(api.TmLam, nat, m(api.TmLam, nat, v(3)))},
		{v(4), -3, 0, v(1)}, {v(4), -3, 4, v(1)}, {v(4), -3, 5, v(4)},
		{v(0), math.MaxInt, 0, v(math.MaxInt)},
		{v(math.MaxInt), 1, math.MaxInt, v(math.MinInt)},
		{m(api.TmLam, v(3), v(4)), 1, math.MaxInt, m(api.TmLam, v(3), v(4))},
		{m(api.TmLam, v(0), v(0)), 1, -1, m(api.TmLam, v(1), v(0))},
		{rec(0, 0, 1, 0), 1, math.MinInt, rec(0, 1, 1, 1)},
	} {
		same(t, "Lift", Lift(c.t, c.by, c.last), c.want)
	}
}

// TestA2LiftMeaning: where more were bound ahead of the last ones, what is lifted by them means what it meant.
func TestA2LiftMeaning(t *testing.T) {
	for _, x := range upTo(5, 2) {
		for last := range 3 {
			for by := range 3 {
				more := slices.Insert(slices.Clone(free), last, slices.Repeat([]string{"=new"}, by)...)
				got := Lift(x, by, last)
				if told(got, 0, more) != told(x, 0, free) {
					t.Fatalf("Lift(%v, %d, %d) is %v", x, by, last, got)
				}
				same(t, "lifted, and back", Lift(got, -by, last+by), x)
				same(t, "one behind the other", Lift(got, 2, last), Lift(x, by+2, last))
			}
		}
	}
}

func TestA2Put(t *testing.T) {
	fun := m(api.TmLam, nat, m(api.TmApp, v(0), v(1)))
	for _, c := range []struct{ t, u, want api.Term }{
		{v(0), v(4), v(4)}, {v(1), v(4), v(0)}, {v(7), v(4), v(6)},
		{nat, v(4), nat}, {u(3), v(4), u(3)}, {def(2), v(4), def(2)},
		{v(0), fun, fun},
		{m(api.TmLam, v(0), v(0)), v(4), m(api.TmLam, v(4), v(0))},
		{m(api.TmLam, v(1), v(1)), v(4), m(api.TmLam, v(0), v(5))},
		{m(api.TmLam, v(2), v(2)), v(4), m(api.TmLam, v(1), v(1))},
		{m(api.TmPi, nat, v(1)), fun, m(api.TmPi, nat, m(api.TmLam, nat, m(api.TmApp, v(0), v(2))))},
		{m(api.TmRec, v(1), v(0), m(api.TmApp, v(1), v(2)), v(0)), v(3), m(api.TmRec, v(4), v(3), m(api.TmApp, v(1), v(5)), v(3))},
		{m(api.TmRec, v(2), v(1), m(api.TmApp, v(0), v(3)), v(1)), v(3), m(api.TmRec, v(1), v(0), m(api.TmApp, v(0), v(2)), v(0))},
		{m(api.TmPair, v(0), v(1), v(0), v(1)), zero, m(api.TmPair, zero, zero, zero, v(0))},
		{m(api.TmApp, v(0), v(0)), def(1), m(api.TmApp, def(1), def(1))},
		{v(math.MaxInt), nat, v(math.MaxInt - 1)},
	} {
		same(t, "Put", Put(c.t, c.u), c.want)
	}
}

// TestA2PutMeaning: what was bound last means what u means, and all others what they meant.
func TestA2PutMeaning(t *testing.T) {
	for _, y := range upTo(3, 2) {
		with := append([]string{told(y, 0, free)}, free...)
		for _, x := range upTo(5, 2) {
			got := Put(x, y)
			if told(got, 0, free) != told(x, 0, with) {
				t.Fatalf("Put(%v, %v) is %v", x, y, got)
			}
			same(t, "lifted, and put", Put(Lift(x, 1, 0), y), x)
		}
	}
}

func TestA2Uses(t *testing.T) {
	rec := m(api.TmRec, v(0), nat, m(api.TmApp, v(0), m(api.TmApp, v(1), v(2))), v(3))
	for _, c := range []struct {
		t    api.Term
		n    int
		want bool
	}{
		{v(0), 0, true}, {v(0), 1, false}, {v(1), 0, false}, {v(1), 1, true},
		{nat, 0, false}, {u(1), 1, false}, {def(1), 1, false},
		{m(api.TmLam, nat, v(0)), 0, false}, {m(api.TmLam, nat, v(0)), -1, false},
		{m(api.TmLam, nat, v(1)), 0, true}, {m(api.TmLam, nat, v(1)), 1, false},
		{m(api.TmLam, v(1), v(0)), 1, true},
		{m(api.TmLam, nat, m(api.TmApp, v(1), v(0))), 0, true},
		{rec, 0, true}, {rec, 1, false}, {rec, 2, false}, {rec, 3, true},
		{rec, -1, false}, {rec, -2, false}, {rec, math.MinInt, false}, {rec, math.MaxInt, false},
		{m(api.TmPair, nat, v(0), nat, v(2)), 0, false}, {m(api.TmPair, nat, v(0), nat, v(2)), 2, true},
		{v(math.MaxInt), math.MaxInt, true},
	} {
		if got := Uses(c.t, c.n); got != c.want {
			t.Errorf("Uses(%v, %d) is %v", c.t, c.n, got)
		}
	}
}

func TestA2UsesMeaning(t *testing.T) {
	for _, x := range upTo(5, 2) {
		for n, name := range free {
			if Uses(x, n) != strings.Contains(told(x, 0, free), name) {
				t.Fatalf("Uses(%v, %d) is %v", x, n, Uses(x, n))
			}
		}
		if Uses(Lift(x, 1, 0), 0) || Uses(x, -1) || Uses(x, -2) {
			t.Fatalf("%v uses what it has not", x)
		}
	}
}

// TestA2MoreThanIsRight: terms of any size, with 2^16 parts nested in one another, are lifted, and put.
func TestA2MoreThanIsRight(t *testing.T) {
	const deep = 1<<16 - 1
	same(t, "Lift", Lift(under(v(0), deep), 5, 0), under(v(5), deep))
	same(t, "Put", Put(under(v(0), deep/2), under(v(3), deep/2)), under(v(3), deep/2*2))
	if !Uses(under(v(2), deep), 2) || Uses(under(v(2), deep), 1) {
		t.Error("Uses fails of what is deep")
	}
	funs, lifted := v(deep), v(deep+1)
	for range deep {
		funs, lifted = m(api.TmLam, nat, funs), m(api.TmLam, nat, lifted)
	}
	same(t, "Lift of functions", Lift(funs, 1, 0), lifted)
	same(t, "Lift of functions", Lift(funs, 1, 1), funs)
	same(t, "Put into functions", Put(funs, v(1)), lifted)
	same(t, "Lift of many", Lift(sized(5000), 1, 0), sized(5000))
}

// roomy is App of v(0) and fun, with spare room behind each list.
func roomy() (api.Term, []api.Term) {
	inner := []api.Term{nat, v(1), none, none}
	list := []api.Term{v(0), m(api.TmLam, inner[:2]...), none, none}
	return m(api.TmApp, list[:2]...), list
}

// TestA2OnlyReads: what is handed in stays, with its spare room, whatever becomes of the answer.
func TestA2OnlyReads(t *testing.T) {
	calls := map[string]func(x, y api.Term) api.Term{
		"Lift":              func(x, _ api.Term) api.Term { return Lift(x, 1, 0) },
		"Lift by 0":         func(x, _ api.Term) api.Term { return Lift(x, 0, 0) },
		"Put":               func(x, y api.Term) api.Term { return Put(x, y) },
		"Put of just u":     func(_, y api.Term) api.Term { return Put(v(0), y) },
		"Put where none is": func(x, y api.Term) api.Term { return Put(Lift(x, 1, 0), y) },
	}
	for name, call := range calls {
		x, xs := roomy()
		y, ys := roomy()
		got := call(x, y)
		spoil(got)
		_, fresh := roomy()
		if !sameRoom(xs, fresh) || !sameRoom(ys, fresh) {
			t.Errorf("%s: what was handed in is changed with the answer", name)
		}
	}
	for name, call := range calls {
		x, _ := roomy()
		y, _ := roomy()
		got, want := call(x, y), call(x, y)
		spoil(x)
		spoil(y)
		same(t, name+", once what was handed in is changed", got, want)
	}
}

func TestA2PartsOfAnAnswerShareNothing(t *testing.T) {
	for _, n := range []int{0, 1} {
		got := Put(m(api.TmApp, v(0), v(0)), m(api.TmLam, nat, v(n)))
		spoil(got.Args[0])
		same(t, "the other one", got.Args[1], m(api.TmLam, nat, v(n)))
	}
}

// spoil overwrites all lists of t, with their spare room.
func spoil(t api.Term) {
	l := t.Args[:cap(t.Args)]
	for i := range l {
		spoil(l[i])
		l[i] = api.Term{Kind: -5}
	}
}

// sameRoom holds lists against each other, with the spare room of the lists in them.
func sameRoom(a, b []api.Term) bool {
	if len(a) != len(b) {
		return false
	}
	for i := range a {
		x, y := a[i], b[i]
		if x.Kind != y.Kind || x.N != y.N || !sameRoom(x.Args[:cap(x.Args)], y.Args[:cap(y.Args)]) {
			return false
		}
	}
	return true
}

// TestExample1 is the document's first example: (fn nat n (a n)), where a and b are bound.
func TestExample1(t *testing.T) {
	const a, b = 1, 0
	x := m(api.TmLam, nat, m(api.TmApp, v(a+1), v(0)))
	if Wrong(x, 2, 0) != api.OK || Size(x) != 5 || !Uses(x, a) || Uses(x, b) {
		t.Errorf("%v: %d, %d, %v, %v", x, Wrong(x, 2, 0), Size(x), Uses(x, a), Uses(x, b))
	}
}
