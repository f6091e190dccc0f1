package eval

import (
	"testing"

	"sortkernel/api"
)

// TestE1Values: what other packages look at values by.
func TestE1Values(t *testing.T) {
	maker := NewMaker(some(t), 2)
	x := read(t, "((fn nat n (fn nat k (n k))) a)")
	fn := maker.Later(&x).Now()
	if !fn.Is(api.TmLam, 2) || fn.Is(api.TmLam, 1) || fn.Is(api.TmPi, 2) || fn.Arg(0).Now().Kind != api.TmNat {
		t.Error("a function")
	}
	same(t, "within", told(fn.Arg(1, Free(1)), 2), read(t, "(a b)"))
	same(t, "called", told(Of(api.TmApp, maker.Later(&x), Of(api.TmZero)), 2), read(t, "(a zero)"))
	same(t, "stuck", told(Of(api.TmFst, Free(0)), 2), read(t, "(fst a)"))
	same(t, "not asked for", told(Of(api.TmSuc, Free(1)), 2), read(t, "(suc b)"))
	pair := read(t, "(pair nat n nat a b)")
	same(t, "first half", told(Of(api.TmFst, maker.Later(&pair)), 2), v(1))
	same(t, "second half", told(Of(api.TmSnd, maker.Later(&pair)), 2), v(0))
	// Where none, or more, are bound, what was bound last is another one; what is declared is the same.
	last, two := v(0), read(t, "two")
	if maker.Later(&last).Now().N != 1 || maker.Where(5).Later(&last).Now().N != 4 {
		t.Error("how many are bound ahead")
	}
	if maker.Where(0).Later(&two).Now() != maker.Later(&two).Now() {
		t.Error("a declaration is worked out twice")
	}
}

// TestE1Behind: what is bound behind those that are known of is what it is said to be, and in that order.
func TestE1Behind(t *testing.T) {
	maker := NewMaker(some(t), 2)
	x := m(api.TmPair, v(0), v(0), v(1), m(api.TmApp, v(2), v(3)))
	one := read(t, "one")
	want := m(api.TmPair, nat, v(0), m(api.TmSuc, zero), m(api.TmApp, v(0), v(1)))
	same(t, "behind", maker.Told(maker.Later(&x, maker.Later(&one), Of(api.TmNat))), want)
	same(t, "none behind", maker.Told(maker.Later(&one)), m(api.TmSuc, zero))
	same(t, "where more are bound", maker.Where(7).Told(Free(1)), v(5))
	same(t, "a height", maker.Told(Height(2)), api.Term{Kind: api.TmU, N: 2})
}

// TestE1Under: of b, where one more is bound, it is what b is of something else.
func TestE1Under(t *testing.T) {
	maker := NewMaker(some(t), 2)
	inner := m(api.TmRec, v(0), v(2), m(api.TmApp, v(0), v(2)), v(0))
	pi := maker.Under(api.TmPi, Of(api.TmNat), maker.Where(3).Later(&inner))
	term := m(api.TmPi, nat, inner)
	same(t, "as it is", maker.Told(pi), term)
	same(t, "where more are bound", maker.Where(5).Told(pi), maker.Where(5).Told(maker.Later(&term)))
	two := read(t, "two")
	for range 2 { // the second time b is there as a term
		got := pi.Now().Arg(1, maker.Later(&two))
		same(t, "of two", maker.Told(got), read(t, "((a (suc (suc zero))) (suc (suc zero)))"))
		same(t, "of one of those", maker.Told(pi.Now().Arg(1, Free(0))), m(api.TmRec, v(0), v(1), m(api.TmApp, v(0), v(3)), v(1)))
		same(t, "of one more", maker.Where(4).Told(pi.Now().Arg(1, Free(3))), m(api.TmRec, v(0), v(3), m(api.TmApp, v(0), v(2)), v(0)))
	}
	large := read(t, huge)
	pi = maker.Under(api.TmSig, maker.Later(&large), maker.Where(3).Later(&large))
	if sig := pi.Now(); !sig.Is(api.TmSig, 2) || !sig.Arg(0).Now().Is(api.TmSuc, 1) {
		t.Error("what is large is not asked for")
	}
}
