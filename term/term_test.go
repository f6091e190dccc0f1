package term

import (
	"math"
	"slices"
	"testing"

	"sortkernel/api"
)

func TestA1Binds(t *testing.T) {
	want := map[int][]int{
		api.TmVar: {}, api.TmU: {}, api.TmUnit: {}, api.TmStar: {}, api.TmEmpty: {}, api.TmNat: {}, api.TmZero: {}, api.TmDef: {},
		api.TmFst: {0}, api.TmSnd: {0}, api.TmSuc: {0},
		api.TmApp: {0, 0}, api.TmAbsurd: {0, 0},
		api.TmPi: {0, 1}, api.TmLam: {0, 1}, api.TmSig: {0, 1},
		api.TmPair: {0, 1, 0, 0},
		api.TmRec:  {1, 0, 2, 0},
	}
	kinds := []int{math.MinInt, math.MaxInt}
	for kind := -3; kind < 300; kind++ {
		kinds = append(kinds, kind)
	}
	for _, kind := range kinds {
		l, is := want[kind]
		got, ok := Binds(kind)
		if ok != is || !slices.Equal(got, l) {
			t.Errorf("Binds(%d) is %v, %v", kind, got, ok)
		}
	}
}

func TestA1BindsAnswersNewMemory(t *testing.T) {
	l, _ := Binds(api.TmRec)
	clear(l[:cap(l)])
	if again, _ := Binds(api.TmRec); !slices.Equal(again, []int{1, 0, 2, 0}) {
		t.Errorf("Binds is %v, once its answer was changed", again)
	}
}

// TestBindsAt: what Binds lists, place by place, and none where it lists nothing.
func TestBindsAt(t *testing.T) {
	for kind := -3; kind < 300; kind++ {
		binds, _ := Binds(kind)
		for arg := -2; arg < 7; arg++ {
			want := 0
			if arg >= 0 && arg < len(binds) {
				want = binds[arg]
			}
			if got := BindsAt(kind, arg); got != want {
				t.Errorf("BindsAt(%d, %d) is %d", kind, arg, got)
			}
		}
	}
}

func TestA1Same(t *testing.T) {
	l := []api.Term{
		v(0), v(1), v(-1), u(0), nat, zero, none, {Kind: 19}, {Kind: api.TmNat, N: 1},
		m(api.TmSuc), m(api.TmSuc, nat), m(api.TmSuc, zero), m(api.TmSuc, nat, nat), m(api.TmFst, nat),
		m(api.TmApp, nat, zero), m(api.TmApp, zero, nat), m(api.TmApp, nat, v(0)), m(api.TmApp, nat, v(1)),
		m(api.TmLam, nat, v(0)), m(api.TmPi, nat, v(0)), under(nat, 40), under(zero, 40), under(nat, 41),
	}
	for i, a := range l {
		for j, b := range l {
			if Same(a, b) != (i == j) {
				t.Errorf("Same(%v, %v) is %v", a, b, Same(a, b))
			}
		}
	}
	if !Same(under(m(api.TmApp, v(0), u(1)), 3), under(m(api.TmApp, v(0), u(1)), 3)) {
		t.Error("terms in other memory are not the same")
	}
	if !Same(api.Term{Kind: api.TmNat, Args: []api.Term{}}, nat) {
		t.Error("nil and a list without entries are not the same")
	}
	if spare := []api.Term{nat, zero}; !Same(m(api.TmSuc, spare[:1]...), m(api.TmSuc, nat)) {
		t.Error("the spare room counts")
	}
}

func TestA1Size(t *testing.T) {
	spare := []api.Term{nat, zero}
	for _, c := range []struct {
		t    api.Term
		want int
	}{
		{nat, 1}, {none, 1}, {v(-7), 1}, {m(api.TmSuc), 1},
		{m(api.TmSuc, nat), 2},
		{m(api.TmNat, nat, nat, nat), 4},
		{m(api.TmSuc, spare[:1]...), 2},
		{m(api.TmLam, nat, m(api.TmApp, v(1), v(0))), 5},
		{m(api.TmRec, nat, zero, under(v(0), 2), v(1)), 7},
		{under(nat, 99), 100}, {sized(60), 60}, {sized(61), 61}, {sized(1000), 1000},
	} {
		if got := Size(c.t); got != c.want {
			t.Errorf("Size(%v) is %d, not %d", c.t, got, c.want)
		}
	}
}

// TestCopy: the same term, right or not, in memory that is neither the other one's nor used twice.
func TestCopy(t *testing.T) {
	twice := m(api.TmSuc, nat)
	for _, x := range []api.Term{nat, none, v(-7), {Kind: api.TmNat, N: 3, Args: []api.Term{}}, m(api.TmVar, nat), m(api.TmApp, twice, twice), under(zero, 1<<16-1)} {
		same(t, "Copy", Copy(x), x)
	}
	x, list := roomy()
	got := Copy(x)
	spoil(got)
	if _, fresh := roomy(); !sameRoom(list, fresh) {
		t.Error("Copy: what was handed in is changed with the answer")
	}
	got = Copy(m(api.TmApp, twice, twice))
	spoil(got.Args[0])
	same(t, "the other one", got.Args[1], twice)
}

// wrongCase is a term, how many are bound and declared, and what Wrong must tell.
type wrongCase struct {
	t            api.Term
	bound, decls int
	want         api.Errno
}

func wrongs(t *testing.T, l []wrongCase) {
	t.Helper()
	for _, c := range l {
		if got := Wrong(c.t, c.bound, c.decls); got != c.want {
			t.Errorf("Wrong(%v, %d, %d) is %d, not %d", c.t, c.bound, c.decls, got, c.want)
		}
	}
}

func TestA1WrongNumbers(t *testing.T) {
	wrongs(t, []wrongCase{
		{v(0), 1, 0, api.OK}, {v(0), 0, 0, api.ErrRange}, {v(0), 0, 9, api.ErrRange},
		{v(2), 3, 0, api.OK}, {v(3), 3, 0, api.ErrRange},
		{v(-1), 3, 0, api.ErrRange}, {v(math.MinInt), 3, 0, api.ErrRange},
		{v(math.MaxInt), math.MaxInt, 0, api.ErrRange}, {v(math.MaxInt - 1), math.MaxInt, 0, api.OK},
		{v(0), -1, 0, api.ErrRange}, {v(0), math.MinInt, 0, api.ErrRange},
		{u(0), 0, 0, api.OK}, {u(api.MaxU), 0, 0, api.OK}, {u(api.MaxU + 1), 0, 0, api.ErrRange}, {u(-1), 0, 0, api.ErrRange},
		{def(0), 0, 1, api.OK}, {def(0), 9, 0, api.ErrRange}, {def(4), 0, 5, api.OK}, {def(5), 0, 5, api.ErrRange},
		{def(-1), 0, 5, api.ErrRange}, {def(0), 0, -1, api.ErrRange}, {m(api.TmLam, nat, def(0)), 0, 0, api.ErrRange},
	})
	for kind := api.TmVar; kind <= api.TmDef; kind++ {
		if kind == api.TmVar || kind == api.TmU || kind == api.TmDef {
			continue
		}
		binds, _ := Binds(kind)
		x := m(kind, slices.Repeat([]api.Term{nat}, len(binds))...)
		for _, n := range []int{0, 1, -1, 7} {
			x.N = n
			want := api.ErrRange
			if n == 0 {
				want = api.OK
			}
			wrongs(t, []wrongCase{{x, 9, 9, want}})
		}
	}
}

// TestA1WrongBound puts numbers at the edge of what is bound into each argument of each kind.
func TestA1WrongBound(t *testing.T) {
	for kind := api.TmVar; kind <= api.TmDef; kind++ {
		binds, _ := Binds(kind)
		for i, more := range binds {
			for bound := range 3 {
				x := m(kind, slices.Repeat([]api.Term{nat}, len(binds))...)
				x.Args[i] = v(bound + more)
				wrongs(t, []wrongCase{{x, bound, 0, api.ErrRange}})
				if bound+more > 0 {
					x.Args[i] = v(bound + more - 1)
					wrongs(t, []wrongCase{{x, bound, 0, api.OK}})
				}
			}
		}
	}
	nested := m(api.TmLam, nat, m(api.TmRec, nat, zero, m(api.TmPi, nat, v(4)), zero))
	wrongs(t, []wrongCase{
		{nested, 1, 0, api.OK}, {nested, 0, 0, api.ErrRange},
		{m(api.TmLam, nat, v(0)), math.MaxInt, 0, api.OK},
		{m(api.TmLam, nat, v(math.MaxInt)), math.MaxInt, 0, api.OK},
		{m(api.TmLam, nat, v(0)), -1, 0, api.ErrRange},
		{m(api.TmApp, m(api.TmLam, nat, v(0)), v(0)), 0, 0, api.ErrRange},
	})
}

func TestA1WrongKinds(t *testing.T) {
	for _, kind := range []int{0, -1, 19, 255, 256 + api.TmNat, math.MinInt, math.MaxInt} {
		wrongs(t, []wrongCase{{m(kind), 9, 9, api.ErrKind}, {m(api.TmSuc, m(kind)), 9, 9, api.ErrKind}})
	}
	for kind := api.TmVar; kind <= api.TmDef; kind++ {
		binds, _ := Binds(kind)
		for many := range 7 {
			want := api.ErrMany
			if many == len(binds) {
				want = api.OK
			}
			wrongs(t, []wrongCase{{m(kind, slices.Repeat([]api.Term{nat}, many)...), 1, 1, want}})
		}
	}
	spare := []api.Term{nat, none}
	wrongs(t, []wrongCase{
		{m(api.TmSuc, spare[:1]...), 0, 0, api.OK},
		{api.Term{Kind: api.TmNat, Args: []api.Term{}}, 0, 0, api.OK},
		{m(api.TmLam, nat, v(0)), 0, 0, api.OK},
	})
}

func TestA1WrongDeepAndMuch(t *testing.T) {
	around := m(api.TmApp, nat, under(nat, api.MaxDeep-1))
	wrongs(t, []wrongCase{
		{under(nat, api.MaxDeep-1), 0, 0, api.OK},
		{under(nat, api.MaxDeep), 0, 0, api.ErrDeep},
		{under(nat, api.MaxDeep+1), 0, 0, api.ErrDeep},
		{under(nat, 1<<16-1), 0, 0, api.ErrDeep},
		{around, 0, 0, api.ErrDeep},
		{sized(api.MaxSize), 0, 0, api.OK},
		{sized(api.MaxSize + 1), 0, 0, api.ErrMuch},
		{sized(5000), 0, 0, api.ErrMuch},
	})
}

// TestA1WrongOrder has terms with several errors: of one term, of an outer and an inner one, of an earlier and a later one.
func TestA1WrongOrder(t *testing.T) {
	bad := func(kind, n int, args ...api.Term) api.Term { return api.Term{Kind: kind, N: n, Args: args} }
	wrongs(t, []wrongCase{
		{under(none, api.MaxDeep), 0, 0, api.ErrDeep},
		{under(v(9), api.MaxDeep), 0, 0, api.ErrDeep},
		{bad(0, 5, nat), 0, 0, api.ErrKind},
		{bad(api.TmVar, 5, nat), 0, 0, api.ErrMany},
		{bad(api.TmSuc, 1), 0, 0, api.ErrMany},

		{bad(0, 0, v(9)), 0, 0, api.ErrKind},
		{bad(api.TmSuc, 0, none, none), 0, 0, api.ErrMany},
		{bad(api.TmSuc, 1, none), 0, 0, api.ErrRange},
		{under(bad(api.TmSuc, 1, none), 3), 0, 0, api.ErrRange},
		{bad(api.TmSuc, 1, under(nat, api.MaxDeep)), 0, 0, api.ErrRange},

		{m(api.TmApp, none, v(9)), 0, 0, api.ErrKind},
		{m(api.TmApp, v(9), none), 0, 0, api.ErrRange},
		{m(api.TmApp, m(api.TmSuc), none), 0, 0, api.ErrMany},
		{m(api.TmApp, under(nat, api.MaxDeep), none), 0, 0, api.ErrDeep},
		{m(api.TmApp, none, under(nat, api.MaxDeep)), 0, 0, api.ErrKind},
		{m(api.TmApp, under(v(9), 3), none), 0, 0, api.ErrRange},
		{m(api.TmPair, nat, nat, v(9), none), 0, 0, api.ErrRange},
		{m(api.TmPair, nat, none, v(9), nat), 0, 0, api.ErrKind},

		{m(api.TmApp, sized(api.MaxSize), none), 0, 0, api.ErrKind},
		{m(api.TmApp, sized(api.MaxSize), under(nat, api.MaxDeep)), 0, 0, api.ErrDeep},
		{m(api.TmApp, sized(api.MaxSize), m(api.TmSuc)), 0, 0, api.ErrMany},
		{m(api.TmApp, sized(api.MaxSize), v(0)), 0, 0, api.ErrRange},
		{m(api.TmApp, sized(api.MaxSize), v(0)), 1, 0, api.ErrMuch},
	})
}

func TestA1AllThatAreMadeRightAre(t *testing.T) {
	for _, x := range upTo(4, 2) {
		wrongs(t, []wrongCase{{x, 2, 1, api.OK}})
	}
}
