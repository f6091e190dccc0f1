package decl

import (
	"slices"
	"strings"
	"testing"

	"sortkernel/api"
	"sortkernel/term"
)

// TestExample8: a name is taken once.
func TestExample8(t *testing.T) {
	l := taken(t, nil, made(t, nil, "one", "nat", "(suc zero)"))
	refused(t, l, made(t, l, "one", "nat", "(suc zero)"), api.ErrName, 0)
	refused(t, l, made(t, l, "one", "U1", "U0"), api.ErrName, 0)
	taken(t, l, made(t, l, "two", "nat", "(suc one)"))
}

func TestH1Names(t *testing.T) {
	if got := Names(nil); len(got) != 0 {
		t.Errorf("of none: %q", got)
	}
	if got := Names([]api.Decl{}); len(got) != 0 {
		t.Errorf("of none: %q", got)
	}
	l := []api.Decl{{Name: "b"}, {Name: "a"}, {Name: ""}, {Name: "b"}, {Name: "no name"}}
	want := []string{"b", "a", "", "b", "no name"}
	got := Names(l)
	if !slices.Equal(got, want) || !slices.Equal(Names(l[1:3]), want[1:3]) {
		t.Errorf("%q", got)
	}
	l[0].Name = "c"
	if !slices.Equal(got, want) || !slices.Equal(Names(l), append([]string{"c"}, want[1:]...)) {
		t.Errorf("%q, behind a change", got)
	}
	if got := Names(base(t, 6)); !slices.Equal(got, []string{"one", "add", "some", "next", "not", "id"}) {
		t.Errorf("%q", got)
	}
}

// TestH1Taken: what is taken comes last, and as it was handed in, and not as what it comes to.
func TestH1Taken(t *testing.T) {
	var l []api.Decl
	for i := range declared {
		l = taken(t, l, base(t, len(declared))[i])
	}
	for _, c := range [][2]string{
		{"nat", "zero"}, {"nat", "one"}, {"nat", "((add one) one)"}, {"nat", "(next one)"}, {"nat", "((id nat) one)"},
		{"unit", "star"}, {"(some zero)", "star"}, {"unit", "((id (some zero)) star)"}, {"(some one)", "one"}, {"(some (next one))", "zero"}, {"((fn U1 a nat) U0)", "zero"}, {"((fn U0 a a) nat)", "zero"},
		{"U0", "nat"}, {"U0", "empty"}, {"U0", "(not empty)"}, {"U0", "(pi nat n (some n))"}, {"U1", "U0"}, {"U1", "(pi U0 a a)"}, {"U1", "(pi U0 a (not a))"}, {"U2", "U1"}, {"U2", "(sig U1 a U0)"}, {"U2", "(pi U1 a (pi U0 b b))"},
		{"(pi U0 a U0)", "not"}, {"(pi U0 a U0)", "(fn U0 a (not (not a)))"}, {"(not empty)", "(fn empty e e)"}, {"(not (not unit))", "(fn (not unit) f (f star))"}, {"(pi U0 a (pi a x (not (not a))))", "(fn U0 a (fn a x (fn (not a) f (f x))))"},
		{"(sig nat n (some n))", "(pair nat n (some n) zero star)"}, {"(sig nat n (some n))", "(pair nat n (some n) one one)"}, {"(pi nat n (some n))", "(fn nat n (rec k (some k) star j i zero n))"},
		{"(sig U0 a a)", "(pair U0 a a nat one)"}, {"(pi empty e (some one))", "(fn empty e (absurd nat e))"}, {"(pi nat n nat)", "next"}, {"(pi nat n nat)", "(fn (some (suc zero)) n ((add n) n))"},
	} {
		taken(t, l, made(t, l, "x", c[0], c[1]))
	}
}

// TestH1Type: what is wrong with a type, which is told of it, whatever the body is.
func TestH1Type(t *testing.T) {
	l := base(t, 6)
	for _, c := range []struct {
		of   string
		want api.Errno
	}{
		{"zero", api.ErrSort}, {"star", api.ErrSort}, {"one", api.ErrSort}, {"some", api.ErrSort}, {"add", api.ErrSort}, {"(fn nat n nat)", api.ErrSort}, {"(pi one n nat)", api.ErrSort}, {"(pair U0 a a nat zero)", api.ErrSort},
		{"U3", api.ErrRange}, {"(pi U3 a nat)", api.ErrRange}, {"(pi nat n U3)", api.ErrRange}, {"(suc U3)", api.ErrRange},
		{"(suc star)", api.ErrType}, {"(some star)", api.ErrType}, {"(not U0)", api.ErrType}, {"(not zero)", api.ErrType}, {"((id U0) nat)", api.ErrType}, {"(rec n U0 zero m k nat one)", api.ErrType},
		{"(nat zero)", api.ErrFun}, {"(one one)", api.ErrFun}, {"(pi nat n (n n))", api.ErrFun},
		{"(fst nat)", api.ErrPair}, {"(snd some)", api.ErrPair}, {"(pi nat n (fst n))", api.ErrPair},
	} {
		for _, body := range []string{"zero", "nat", "star", "(fn nat n n)", "U3", "(zero zero)", "(fst zero)", "(suc star)", "(pi zero n nat)"} {
			refused(t, l, made(t, l, "x", c.of, body), c.want, 1)
		}
		refused(t, l, made(t, l, "x", c.of, c.of), c.want, 1)
	}
}

// TestH1Body: what is wrong with a body, of a type.
func TestH1Body(t *testing.T) {
	l := base(t, 6)
	for _, of := range []string{"nat", "unit", "empty", "U0", "U2", "(some one)", "(not empty)", "(pi nat n nat)", "(sig nat n (some n))"} {
		for _, c := range []struct {
			body string
			want api.Errno
		}{
			{"U3", api.ErrRange}, {"(fn nat n U3)", api.ErrRange}, {"(fn U3 a a)", api.ErrRange},
			{"(zero zero)", api.ErrFun}, {"(one one)", api.ErrFun}, {"(fn nat n (n n))", api.ErrFun},
			{"(fst zero)", api.ErrPair}, {"(snd id)", api.ErrPair},
			{"(pi zero n nat)", api.ErrSort}, {"(fn one n n)", api.ErrSort}, {"(absurd star star)", api.ErrSort}, {"(rec n zero zero m k k zero)", api.ErrSort},
			{"(suc star)", api.ErrType}, {"(absurd nat zero)", api.ErrType}, {"(next star)", api.ErrType}, {"(pair nat n (some n) zero zero)", api.ErrType}, {"(rec n (some n) zero m k k zero)", api.ErrType},
		} {
			refused(t, l, made(t, l, "x", of, c.body), c.want, 2)
		}
	}
	// What has a type has just one.
	for _, c := range [][2]string{
		{"nat", "star"}, {"nat", "nat"}, {"unit", "zero"}, {"empty", "star"}, {"empty", "zero"}, {"empty", "empty"}, {"U0", "zero"}, {"U0", "U0"}, {"U1", "nat"}, {"U2", "U0"}, {"U0", "U1"}, {"U0", "(pi U0 a a)"},
		{"(some zero)", "zero"}, {"(some one)", "star"}, {"(pi nat n nat)", "zero"}, {"(pi nat n nat)", "add"}, {"(pi nat n nat)", "(fn unit n zero)"}, {"(pi nat n (some n))", "(fn nat n n)"}, {"(pi nat n (some n))", "(fn nat n star)"},
		{"(sig nat n nat)", "(pair nat n (some n) one one)"}, {"(sig nat n (some n))", "(pair nat n nat one one)"}, {"(not (not empty))", "(fn empty e e)"}, {"(not nat)", "next"}, {"(pi U0 a a)", "id"},
	} {
		refused(t, l, made(t, l, "x", c[0], c[1]), api.ErrType, 2)
	}
}

// TestH1Called: what a name must be, and that no other one is called so.
func TestH1Called(t *testing.T) {
	l := base(t, 6)
	for _, name := range []string{"x", "z", "a", "on", "onee", "de", "deff", "define", "eight", "abcdefgh", "zzzzzzzz", "fns", "natu", "u", "succ"} {
		taken(t, l, api.Decl{Name: name, Type: nat, Body: zero})
		taken(t, nil, api.Decl{Name: name, Type: nat, Body: zero})
	}
	for _, name := range []string{"", "abcdefghi", strings.Repeat("a", 1000), "def", "pi", "fn", "sig", "pair", "fst", "snd", "unit", "star", "empty", "absurd", "nat", "zero", "suc", "rec", "U0", "A", "One", "a b", "a1", " a", "a ", "a\n", "(", "ä", "a\x00", "a_b", "`", "{"} {
		refused(t, l, api.Decl{Name: name, Type: nat, Body: zero}, api.ErrName, 0)
		refused(t, nil, api.Decl{Name: name, Type: nat, Body: zero}, api.ErrName, 0)
	}
	for i := range l {
		refused(t, l, api.Decl{Name: l[i].Name, Type: nat, Body: zero}, api.ErrName, 0)
		refused(t, l, l[i], api.ErrName, 0)
		// Those that are not there take no name.
		taken(t, l[:i], l[i])
	}
}

// TestH1Many: as many as may be, and one more.
func TestH1Many(t *testing.T) {
	l := numbered(api.MaxDecls + 3)
	for many := range len(l) {
		if many < api.MaxDecls {
			taken(t, l[:many], l[many])
			continue
		}
		refused(t, l[:many], l[many], api.ErrMany, 0)
	}
	got, verdicts := All(l)
	if !sameDecls(got, l[:api.MaxDecls]) || len(verdicts) != len(l) {
		t.Errorf("%q come, and %v", Names(got), verdicts)
	}
	for i, v := range verdicts {
		if want := (api.Verdict{Err: api.ErrMany}); i < api.MaxDecls && v != (api.Verdict{}) || i >= api.MaxDecls && v != want {
			t.Errorf("%d: %v", i, v)
		}
	}
}

// TestH1Deep: of as many within one another as may be, and of one more.
func TestH1Deep(t *testing.T) {
	number, of := under(zero, api.MaxDeep-1), nat
	for range api.MaxDeep - 1 {
		of = m(api.TmPi, nat, of)
	}
	taken(t, nil, api.Decl{Name: "x", Type: nat, Body: number})
	taken(t, nil, api.Decl{Name: "x", Type: m(api.TmU), Body: of})
	refused(t, nil, api.Decl{Name: "x", Type: of, Body: number}, api.ErrType, 2)
	refused(t, nil, api.Decl{Name: "x", Type: nat, Body: under(number, 1)}, api.ErrDeep, 2)
	refused(t, nil, api.Decl{Name: "x", Type: m(api.TmPi, nat, of), Body: number}, api.ErrDeep, 1)
}

// TestH1Much: of as much as may be, and of one more.
func TestH1Much(t *testing.T) {
	// A number of two numbers, and a type of one: of three terms more than these are, and of four.
	two := func(a, b api.Term) api.Term { return m(api.TmRec, nat, a, v(0), b) }
	of := func(n api.Term) api.Term { return m(api.TmRec, m(api.TmU), nat, v(0), n) }
	some := two(under(zero, 17), under(zero, 16))
	number, less := two(some, under(zero, 18)), two(some, under(zero, 14))
	if term.Size(number) != api.MaxSize || term.Size(of(less)) != api.MaxSize {
		t.Fatalf("%d, %d", term.Size(number), term.Size(of(less)))
	}
	taken(t, nil, api.Decl{Name: "x", Type: of(less), Body: number})
	refused(t, nil, api.Decl{Name: "x", Type: of(less), Body: m(api.TmSuc, number)}, api.ErrMuch, 2)
	refused(t, nil, api.Decl{Name: "x", Type: of(m(api.TmSuc, less)), Body: number}, api.ErrMuch, 1)
}

// TestH1Ahead: a declaration may name those ahead of it, each of them, and none else.
func TestH1Ahead(t *testing.T) {
	ahead := base(t, 6)
	for many := range len(ahead) + 1 {
		l := ahead[:many]
		for n := range l {
			taken(t, l, api.Decl{Name: "x", Type: l[n].Type, Body: def(n)})
		}
		for n := range 2 {
			of := m(api.TmApp, def(2), under(zero, n)) // (some n)
			if body := []api.Term{m(api.TmStar), zero}[n]; many > 2 {
				taken(t, l, api.Decl{Name: "x", Type: of, Body: body})
			} else {
				refused(t, l, api.Decl{Name: "x", Type: of, Body: body}, api.ErrRange, 1)
			}
		}
		for _, n := range []int{-1, many, many + 1, api.MaxDecls} {
			refused(t, l, api.Decl{Name: "x", Type: nat, Body: def(n)}, api.ErrRange, 2)
			refused(t, l, api.Decl{Name: "x", Type: def(n), Body: nat}, api.ErrRange, 1)
		}
		for _, free := range []int{0, 1, -1} {
			refused(t, l, api.Decl{Name: "x", Type: nat, Body: v(free)}, api.ErrRange, 2)
			refused(t, l, api.Decl{Name: "x", Type: v(free), Body: nat}, api.ErrRange, 1)
		}
	}
}

// TestH1Large: what nobody asks for is not worked out, however much it would be.
func TestH1Large(t *testing.T) {
	l := base(t, 6)
	for _, d := range [][3]string{
		// Two to a number; of 0, 1, 2 and so on 0, 1, 2, 4, 16, 65536, and two to that.
		{"power", "(pi nat n nat)", "(fn nat n (rec k nat one j i (rec k nat zero l h (suc (suc h)) i) n))"},
		{"tower", "(pi nat n nat)", "(fn nat n (rec k nat zero j i (power i) n))"},
		{"huge", "nat", "(tower (suc (suc (suc (suc (suc one))))))"},
		{"number", "(some huge)", "(suc huge)"},
	} {
		l = taken(t, l, made(t, l, d[0], d[1], d[2]))
	}
	taken(t, l, made(t, l, "x", "nat", "number"))
	taken(t, l, made(t, l, "x", "(sig (some huge) n (some (suc huge)))", "(pair nat n nat huge number)"))
	refused(t, l, made(t, l, "x", "(some huge)", "star"), api.ErrType, 2)
	refused(t, l, made(t, l, "x", "huge", "huge"), api.ErrSort, 1)
	refused(t, l, made(t, l, "huge", "nat", "huge"), api.ErrName, 0)
	if again, vs := All(l); !sameDecls(again, l) {
		t.Errorf("%q come, and %v", Names(again), vs)
	}
}
