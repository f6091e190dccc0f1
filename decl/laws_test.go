package decl

import (
	"slices"
	"testing"

	"sortkernel/api"
	"sortkernel/eval"
	"sortkernel/infer"
	"sortkernel/term"
)

// mixed are so many declarations, of which some are taken: numbers that come of each other choose. What they name is
// told by numbers: what that is hangs on what was taken ahead.
func mixed(t *testing.T, seed uint32, many int) []api.Decl {
	t.Helper()
	pick := func(many int) int {
		seed = seed*1664525 + 1013904223
		return int(seed>>16) % many
	}
	names := []string{"a", "b", "c", "d", "e", "f", "g", "h", "i", "j", "k", "l", "m", "n", "o", "p", "suc", ""}
	pool := []api.Term{nat, zero, v(0), none, m(api.TmSuc, def(0)), m(api.TmSuc, def(1)), m(api.TmU), m(api.TmStar), m(api.TmUnit)}
	for n := range 6 {
		pool = append(pool, def(n), m(api.TmApp, def(n), zero), m(api.TmPi, def(n), def(0)), m(api.TmLam, def(n), v(0)), m(api.TmPi, def(n), def(n)))
	}
	for _, s := range []string{"U1", "(fn nat n n)", "(pi nat n nat)", "(sig nat n nat)", "(pair nat n nat zero zero)", "(pi U0 a a)", "(fn nat n nat)", "(pi nat n U0)"} {
		pool = append(pool, read(t, nil, s))
	}
	var out []api.Decl
	for range many {
		d := api.Decl{Name: names[pick(len(names))], Type: pool[pick(len(pool))], Body: pool[pick(len(pool))]}
		if pick(3) > 0 {
			// Else few would be taken.
			fit := [][2]api.Term{{nat, zero}, {nat, m(api.TmSuc, def(pick(4)))}, {m(api.TmU), pool[pick(len(pool))]}, {def(pick(4)), zero}, {nat, def(pick(4))}, {m(api.TmU), nat}, {m(api.TmPi, def(pick(4)), nat), m(api.TmLam, def(pick(4)), v(0))}}[pick(7)]
			d.Type, d.Body = fit[0], fit[1]
		}
		out = append(out, d)
	}
	return out
}

// TestH1All: it is Add of each, to what was taken ahead of it.
func TestH1All(t *testing.T) {
	errors := map[api.Verdict]int{}
	for seed := range uint32(300) {
		l := mixed(t, seed, int(seed%60))
		var want []api.Decl
		verdicts := make([]api.Verdict, len(l))
		for i, d := range l {
			want, verdicts[i] = Add(want, d)
			errors[verdicts[i]]++
		}
		got, vs := All(l)
		if !sameDecls(got, want) || !slices.Equal(vs, verdicts) {
			t.Fatalf("%v: %q comes, and %v, not %q, and %v", l, Names(got), vs, Names(want), verdicts)
		}
	}
	for _, v := range []api.Verdict{{}, {Err: api.ErrName}, {Err: api.ErrMany}, {Err: api.ErrKind, Part: 1}, {Err: api.ErrKind, Part: 2}, {Err: api.ErrRange, Part: 1}, {Err: api.ErrRange, Part: 2}, {Err: api.ErrSort, Part: 1}, {Err: api.ErrSort, Part: 2}, {Err: api.ErrFun, Part: 2}, {Err: api.ErrType, Part: 2}} {
		if errors[v] < 20 {
			t.Errorf("%v comes %d times", v, errors[v])
		}
	}
	if got, vs := All(nil); len(got) != 0 || len(vs) != 0 {
		t.Errorf("of none: %v, %v", got, vs)
	}
	if got, vs := All([]api.Decl{}); len(got) != 0 || len(vs) != 0 {
		t.Errorf("of none: %v, %v", got, vs)
	}
}

// TestH1TakenAgain: what is taken is taken again, all of it, and once only; what is refused leaves nothing.
func TestH1TakenAgain(t *testing.T) {
	for seed := range uint32(300) {
		l := mixed(t, seed, 40)
		got, vs := All(l)
		var fit []api.Decl
		for i, v := range vs {
			if v.Err == api.OK {
				fit = append(fit, l[i])
			}
		}
		if !sameDecls(got, fit) {
			t.Fatalf("%v: %v comes, and not %v", vs, got, fit)
		}
		again, vs := All(got)
		if !sameDecls(again, got) || slices.ContainsFunc(vs, func(v api.Verdict) bool { return v != api.Verdict{} }) {
			t.Fatalf("%q, again: %q comes, and %v", Names(got), Names(again), vs)
		}
		again, vs = All(append(got[:len(got):len(got)], got...))
		if !sameDecls(again, got) || slices.ContainsFunc(vs[len(got):], func(v api.Verdict) bool { return v.Err != api.ErrName }) {
			t.Fatalf("%q, twice: %q comes, and %v", Names(got), Names(again), vs)
		}
	}
}

// TestH1Behind: what is taken is of its type from there on, and is what it is; and with more there it stays so.
func TestH1Behind(t *testing.T) {
	for seed := range uint32(200) {
		l, _ := All(mixed(t, seed, 40))
		for n, d := range l {
			of, e := infer.Infer(l, nil, def(n))
			if e != api.OK || !term.Same(of, eval.Normal(l[:n], d.Type, 0)) {
				t.Fatalf("%v: %v comes, %d", d, of, e)
			}
			if !term.Same(eval.Normal(l, def(n), 0), eval.Normal(l[:n], d.Body, 0)) {
				t.Fatalf("%v: it is something else", d)
			}
			d.Name = "again"
			if len(l) < api.MaxDecls {
				taken(t, l, d)
			} else {
				refused(t, l, d, api.ErrMany, 0)
			}
		}
	}
}

// TestH1Further: of a list that is the caller's alone it is Add, but for the copy: what is there stays where it is.
func TestH1Further(t *testing.T) {
	for seed := range uint32(100) {
		l := make([]api.Decl, 0, api.MaxDecls)
		for _, d := range mixed(t, seed, 40) {
			handed := roomyAll([]api.Decl{d})
			want, w := Add(l, d)
			got, v := Further(l, handed[0])
			spoilAll(handed)
			if !sameDecls(got, want) || v != w {
				t.Fatalf("%v: %q comes, and %v, not %q, and %v", d, Names(got), v, Names(want), w)
			}
			if len(l) > 0 && &got[0] != &l[0] {
				t.Fatalf("%q was copied", Names(l))
			}
			l = got
		}
	}
}

// TestH1OnlyReads: what is handed in is only read; on its spare room nothing hangs.
func TestH1OnlyReads(t *testing.T) {
	for seed := range uint32(100) {
		plain := mixed(t, seed, 30)
		ahead, _ := All(plain[:15])
		l, some := roomyAll(plain), roomyAll(ahead)
		got, verdicts := All(l)
		want, wants := All(plain)
		if !sameDecls(got, want) || !slices.Equal(verdicts, wants) {
			t.Fatalf("%v: spare room matters: %v comes, not %v", plain, verdicts, wants)
		}
		for _, d := range l {
			got, v := Add(some, d)
			want, w := Add(ahead, d)
			if !sameDecls(got, want) || v != w {
				t.Fatalf("%v: spare room matters: %v comes, not %v", d, v, w)
			}
			spoilAll(got)
		}
		Names(l)[0] = "gone"
		spoilAll(got)
		if !sameRoomAll(l, roomyAll(plain)) || !sameRoomAll(some, roomyAll(ahead)) {
			t.Fatalf("%v: what is handed in is changed", plain)
		}
	}
}

// TestH1NewMemory: once what was handed in is changed, what was answered stays, beside an error too.
func TestH1NewMemory(t *testing.T) {
	handed := func() (l, more []api.Decl) {
		l = base(t, 6)
		return l, []api.Decl{made(t, l, "x", "U0", "(sig (sig nat n nat) p (some (fst p)))"), made(t, l, "x", "(suc one)", "(suc one)"), made(t, l, "one", "nat", "(suc zero)")}
	}
	ahead, more := handed()
	for i, d := range more {
		l, ds := handed()
		all, _ := All(append(l[:len(l):len(l)], ds[i]))
		got, v := Add(l, ds[i])
		spoilAll(l)
		spoilAll(ds)
		want := ahead
		if v.Err == api.OK {
			want = append(ahead[:len(ahead):len(ahead)], d)
		}
		if !sameDecls(got, want) || !sameDecls(all, want) {
			t.Errorf("%v: what was answered is changed", v)
		}
	}
}

// TestH1ListsApart: no two lists of an answer are one, even if they were.
func TestH1ListsApart(t *testing.T) {
	pair := m(api.TmSig, nat, nat)
	body := m(api.TmSig, pair, pair)
	l := []api.Decl{
		{Name: "a", Type: m(api.TmU), Body: body}, {Name: "b", Type: m(api.TmU), Body: body},
		{Name: "c", Type: m(api.TmPi, pair, pair), Body: m(api.TmLam, pair, v(0))},
	}
	all, _ := All(l)
	got, _ := Add(l, api.Decl{Name: "d", Type: m(api.TmPi, body, body), Body: m(api.TmLam, body, v(0))})
	same, _ := Add(l, api.Decl{})
	if len(all) != 3 || len(got) != 4 || len(same) != 3 {
		t.Fatalf("%q, %q, %q", Names(all), Names(got), Names(same))
	}
	many := map[*api.Term]int{}
	for _, d := range slices.Concat(l, all, got, same) {
		lists(d.Type, many)
		lists(d.Body, many)
	}
	for at, n := range many {
		if n > 1 && at != &pair.Args[0] && at != &body.Args[0] {
			t.Errorf("a list is there %d times", n)
		}
	}
	// What was handed in has these as often as at first: no answer has them.
	if many[&pair.Args[0]] != 7 || many[&body.Args[0]] != 2 {
		t.Errorf("%d, and %d", many[&pair.Args[0]], many[&body.Args[0]])
	}
}

// TestH1SpareRoom: what is put behind an answer is in no other one.
func TestH1SpareRoom(t *testing.T) {
	l := roomyAll(numbered(3))
	a, _ := Add(l, api.Decl{Name: "x", Type: nat, Body: zero})
	b, _ := Add(l, api.Decl{Name: "y", Type: nat, Body: zero})
	c, _ := Add(l, api.Decl{Name: "a"})
	d, _ := Add(l, api.Decl{Name: "b"})
	c, d = append(c, api.Decl{Name: "v"}), append(d, api.Decl{Name: "w"})
	if a[3].Name != "x" || b[3].Name != "y" || c[3].Name != "v" || d[3].Name != "w" || l[:4][3].Name != "a" {
		t.Errorf("%q, %q, %q, %q", Names(a), Names(b), Names(c), Names(d))
	}
}
