package eval

import (
	"testing"

	"sortkernel/api"
)

// TestE1Values: what other packages look at values by.
func TestE1Values(t *testing.T) {
	maker := NewMaker(some(t), 2)
	x := read(t, "((fn nat n (fn nat k (n k))) a)")
	fn := maker.Later(&x).Now()
	if !fn.Is(api.TmLam, 2) || fn.Is(api.TmLam, 1) || fn.Is(api.TmPi, 2) || fn.Arg(0).Now().Kind != api.TmNat {
		t.Error("a function")
	}
	same(t, "within", told(fn.Arg(1, Free(1)), 2), read(t, "(a b)"))
	same(t, "called", told(Of(api.TmApp, maker.Later(&x), Of(api.TmZero)), 2), read(t, "(a zero)"))
	same(t, "stuck", told(Of(api.TmFst, Free(0)), 2), read(t, "(fst a)"))
	same(t, "not asked for", told(Of(api.TmSuc, Free(1)), 2), read(t, "(suc b)"))
	pair := read(t, "(pair nat n nat a b)")
	same(t, "first half", told(Of(api.TmFst, maker.Later(&pair)), 2), v(1))
	same(t, "second half", told(Of(api.TmSnd, maker.Later(&pair)), 2), v(0))
	// Where none, or more, are bound, what was bound last is another one; what is declared is the same.
	last, two := v(0), read(t, "two")
	if maker.Later(&last).Now().N != 1 || maker.Where(5).Later(&last).Now().N != 4 {
		t.Error("how many are bound ahead")
	}
	if maker.Where(0).Later(&two).Now() != maker.Later(&two).Now() {
		t.Error("a declaration is worked out twice")
	}
}
