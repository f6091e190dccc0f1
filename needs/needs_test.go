package needs

import (
	"slices"
	"strings"
	"testing"

	"sortkernel/api"
	"sortkernel/term"
)

// TestExample10: of three declarations one needs itself, and one ahead.
func TestExample10(t *testing.T) {
	l := taken(t, "(def one nat (suc zero))\n(def none nat zero)\n(def two nat (suc one))")
	if got := Of(l, def(2)); !slices.Equal(got, []int{0, 2}) {
		t.Errorf("%v", got)
	}
	got, ts := Trim(l, def(2))
	want := []api.Decl{{Name: "one", Type: nat, Body: m(api.TmSuc, zero)}, {Name: "two", Type: nat, Body: m(api.TmSuc, def(0))}}
	if !sameDecls(got, want) || !sameTerms(ts, []api.Term{def(1)}) {
		t.Errorf("%v, %v", got, ts)
	}
	if got := Unfold(l, def(2)); !term.Same(got, m(api.TmSuc, m(api.TmSuc, zero))) {
		t.Errorf("%v", got)
	}
}

// needed are terms, as texts, and the names of what they need of lines.
var needed = []struct {
	ts   []string
	want string
}{
	{nil, ""},
	{[]string{"nat"}, ""},
	{[]string{"a", "b", "U0", "U3", "star"}, ""},
	{[]string{"(fn nat n (a n))", "(rec n nat a m k (suc k) b)"}, ""},
	{[]string{"one"}, "one"},
	{[]string{"ty"}, "ty"},
	// By its type ty, and by its body one.
	{[]string{"two"}, "one ty two"},
	// By its type alone.
	{[]string{"add"}, "ty add"},
	{[]string{"next"}, "one some next"},
	// By its body alone.
	{[]string{"four"}, "one ty two add four"},
	{[]string{"this"}, "one ty two add some four this"},
	{[]string{"idle"}, "some here idle"},
	{[]string{"same"}, "one ty two id same"},
	{[]string{"id"}, "id"},
	// However often, and in whatever turn, they are named.
	{[]string{"one", "one", "(add one)"}, "one ty add"},
	{[]string{"idle", "here", "some", "one"}, "one some here idle"},
	{[]string{"id", "nat", "one"}, "one id"},
	{[]string{"((add one) one)"}, "one ty add"},
	{[]string{"here", "(fn nat n (id n))", "b"}, "here id"},
	{[]string{"one", "ty", "two", "add", "some", "next", "four", "here", "this", "id", "same", "idle"}, "one ty two add some next four here this id same idle"},
	// Wherever they are named, whatever is bound there.
	{[]string{"(pi here n nat)"}, "here"},
	{[]string{"(pi nat n id)"}, "id"},
	{[]string{"(fn here n nat)"}, "here"},
	{[]string{"(fn nat n (fn nat m id))"}, "id"},
	{[]string{"(id a)"}, "id"},
	{[]string{"(a id)"}, "id"},
	{[]string{"(sig ty n nat)"}, "ty"},
	{[]string{"(sig nat n ty)"}, "ty"},
	{[]string{"(pair id n b a b)"}, "id"},
	{[]string{"(pair a n here a b)"}, "here"},
	{[]string{"(pair a n b one b)"}, "one"},
	{[]string{"(pair a n b a ty)"}, "ty"},
	{[]string{"(fst id)"}, "id"},
	{[]string{"(snd id)"}, "id"},
	{[]string{"(suc id)"}, "id"},
	{[]string{"(absurd id a)"}, "id"},
	{[]string{"(absurd a id)"}, "id"},
	{[]string{"(rec n id a m k b a)"}, "id"},
	{[]string{"(rec n a id m k b a)"}, "id"},
	{[]string{"(rec n a b m k id a)"}, "id"},
	{[]string{"(rec n a b m k b id)"}, "id"},
	// What is bound is called so, and not what is declared.
	{[]string{"(fn nat one one)"}, ""},
}

func TestJ1Of(t *testing.T) {
	l := taken(t, lines)
	for _, c := range needed {
		got := Of(l, readAll(t, l, c.ts)...)
		if strings.Join(called(l, got), " ") != c.want {
			t.Errorf("%q: %q comes, not %q", c.ts, called(l, got), c.want)
		}
		if !slices.IsSorted(got) {
			t.Errorf("%q: %v is not rising", c.ts, got)
		}
	}
}

// TestJ1Trim: the declarations are those that Of tells; all of them, and terms, are written as they were.
func TestJ1Trim(t *testing.T) {
	l := taken(t, lines)
	for _, c := range needed {
		ts := readAll(t, l, c.ts)
		got, us := Trim(l, ts...)
		numbers := Of(l, ts...)
		if len(got) != len(numbers) || len(us) != len(ts) {
			t.Fatalf("%q: %d of %d, and %d of %d", c.ts, len(got), len(numbers), len(us), len(ts))
		}
		for i, n := range numbers {
			was := []string{l[n].Name, written(l, l[n].Type), written(l, l[n].Body)}
			if is := []string{got[i].Name, written(got, got[i].Type), written(got, got[i].Body)}; !slices.Equal(is, was) {
				t.Errorf("%q: %q comes, not %q", c.ts, is, was)
			}
		}
		for i := range ts {
			if written(got, us[i]) != written(l, ts[i]) || term.Wrong(us[i], 2, len(got)) != api.OK {
				t.Errorf("%q comes, not %q", written(got, us[i]), written(l, ts[i]))
			}
		}
	}
}

// TestJ1TrimNumbers: numbers of declarations are others, in types and in bodies; other numbers stay.
func TestJ1TrimNumbers(t *testing.T) {
	l := taken(t, lines)
	got, ts := Trim(l, m(api.TmApp, v(7), def(11)), def(7), api.Term{Kind: api.TmU, N: 3}, m(api.TmLam, def(4), v(1)))
	want := []api.Decl{
		{Name: "some", Type: l[4].Type, Body: l[4].Body},
		{Name: "here", Type: m(api.TmUnit), Body: m(api.TmStar)},
		{Name: "idle", Type: m(api.TmApp, def(0), zero), Body: def(1)},
	}
	if !sameDecls(got, want) {
		t.Errorf("%v", got)
	}
	if !sameTerms(ts, []api.Term{m(api.TmApp, v(7), def(2)), def(1), {Kind: api.TmU, N: 3}, m(api.TmLam, def(0), v(1))}) {
		t.Errorf("%v", ts)
	}
	// All of them: nothing is another number.
	var all []api.Term
	for n := range l {
		all = append(all, def(n))
	}
	if got, ts = Trim(l, all...); !sameDecls(got, l) || !sameTerms(ts, all) {
		t.Errorf("%v, %v", got, ts)
	}
}

func TestJ1Unfold(t *testing.T) {
	l := taken(t, lines)
	sum := "(fn nat n (fn nat m (rec k nat n j i (suc i) m)))"
	two, choice, id := "(suc (suc zero))", "(fn nat n (rec k U0 unit j i nat n))", "(fn U0 a (fn a x x))"
	for _, c := range [][2]string{
		{"nat", "nat"},
		{"U2", "U2"},
		{"a", "a"},
		{"(fn nat n (b (a n)))", "(fn nat n (b (a n)))"},
		{"one", "(suc zero)"},
		{"ty", "nat"},
		{"two", two},
		{"add", sum},
		{"some", choice},
		{"next", "(fn nat n (suc n))"},
		// There is nothing less to do: steps are none of it.
		{"four", "((" + sum + " " + two + ") " + two + ")"},
		{"this", "(pair nat n (" + choice + " n) " + two + " ((" + sum + " " + two + ") " + two + "))"},
		{"same", "((" + id + " nat) " + two + ")"},
		{"idle", "star"},
		{"((fn nat n n) one)", "((fn nat n n) (suc zero))"},
		// Wherever it is named; what is bound outside of it stays.
		{"(pi ty n (some one))", "(pi nat n (" + choice + " (suc zero)))"},
		{"(fn ty n (fn (some n) m (((a b) n) ((add m) one))))", "(fn nat n (fn (" + choice + " n) m (((a b) n) ((" + sum + " m) (suc zero)))))"},
		{"(sig ty n (some n))", "(sig nat n (" + choice + " n))"},
		{"(pair ty n (some n) one two)", "(pair nat n (" + choice + " n) (suc zero) " + two + ")"},
		{"(fst here)", "(fst star)"},
		{"(snd here)", "(snd star)"},
		{"(suc here)", "(suc star)"},
		{"(absurd ty here)", "(absurd nat star)"},
		{"(rec n ty one m k ((add m) k) two)", "(rec n nat (suc zero) m k ((" + sum + " m) k) " + two + ")"},
	} {
		if got, want := Unfold(l, read(t, l, c[0])), read(t, nil, c[1]); !term.Same(got, want) {
			t.Errorf("%q: %q comes, not %q", c[0], written(nil, got), c[1])
		}
	}
	for n := range l {
		if got := Unfold(l, def(n)); !term.Same(got, Unfold(l[:n], l[n].Body)) {
			t.Errorf("%q: %v comes", l[n].Name, got)
		}
	}
}

// TestJ1None: of nothing there is nothing; without declarations terms stay; nil and empty lists are the same.
func TestJ1None(t *testing.T) {
	x := m(api.TmLam, nat, m(api.TmApp, v(1), v(0)))
	for _, l := range [][]api.Decl{nil, {}, taken(t, lines)} {
		for _, ts := range [][]api.Term{nil, {}} {
			got, us := Trim(l, ts...)
			if numbers := Of(l, ts...); len(numbers)+len(got)+len(us) != 0 {
				t.Errorf("%v, %v, %v", numbers, got, us)
			}
		}
		got, us := Trim(l, x, zero)
		if numbers := Of(l, x, zero); len(numbers)+len(got) != 0 || !sameTerms(us, []api.Term{x, zero}) {
			t.Errorf("%v, %v, %v", numbers, got, us)
		}
		if got := Unfold(l, x); !term.Same(got, x) {
			t.Errorf("%v", got)
		}
	}
}

// TestJ1Large: the largest terms, the most declarations, and what is far more than a term may be once it is Unfolded.
func TestJ1Large(t *testing.T) {
	s, deep := "(def a nat zero)\n", "a"
	for range api.MaxDeep - 1 {
		deep = "(suc " + deep + ")"
	}
	for c := 'b'; c <= 'l'; c++ {
		s += "(def " + string(c) + " nat " + strings.ReplaceAll(deep, "a", string(c-1)) + ")\n"
	}
	l := taken(t, s)
	if len(l) != api.MaxDecls {
		t.Fatalf("%d", len(l))
	}
	if got := term.Size(Unfold(l, def(11))); got != 11*(api.MaxDeep-1)+1 {
		t.Errorf("%d", got)
	}
	if got := Of(l, def(11)); len(got) != 12 || got[0] != 0 || got[11] != 11 {
		t.Errorf("%v", got)
	}
	s = "(def a U0 nat)\n"
	for c := 'b'; c <= 'l'; c++ {
		s += "(def " + string(c) + " U0 " + strings.ReplaceAll("(sig (sig x n x) n (pi x m x))", "x", string(c-1)) + ")\n"
	}
	// Of each one there are four of the one ahead, and three around them: 4^9 + 4^9 - 1.
	if got := term.Size(Unfold(taken(t, s), def(9))); got != 2*(1<<18)-1 {
		t.Errorf("%d", got)
	}
	wide := def(11)
	for term.Size(wide)+4 <= api.MaxSize {
		wide = m(api.TmPair, wide, def(0), def(11), def(5))
	}
	wide = m(api.TmSuc, m(api.TmSuc, m(api.TmSuc, wide)))
	if term.Wrong(wide, 0, 12) != api.OK || term.Size(wide) != api.MaxSize {
		t.Fatalf("%d, %d", term.Wrong(wide, 0, 12), term.Size(wide))
	}
	if got, us := Trim(l, wide); !sameDecls(got, l) || !sameTerms(us, []api.Term{wide}) {
		t.Errorf("%v, %v", got, us)
	}
	// Of any number of terms.
	if got := Of(l, append(slices.Repeat([]api.Term{zero}, 10000), def(0))...); !slices.Equal(got, []int{0}) {
		t.Errorf("%v", got)
	}
}
