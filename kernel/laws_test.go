package kernel

import (
	"bytes"
	"slices"
	"testing"

	"sortkernel/api"
	"sortkernel/decl"
	"sortkernel/wire"
)

// plainly is Do's answer, as the chapter tells it.
func plainly(s api.Session, b []byte) api.Session {
	d, e := wire.GetDecl(b)
	if e != api.OK {
		return api.Session{Decls: s.Decls, Verdicts: append(slices.Clone(s.Verdicts), api.Verdict{Err: e})}
	}
	l, v := decl.Add(s.Decls, d)
	return api.Session{Decls: l, Verdicts: append(slices.Clone(s.Verdicts), v)}
}

// hold: of b behind s all calls answer what plainly does, and what must come of it.
func hold(t *testing.T, s api.Session, b []byte) api.Session {
	t.Helper()
	want := plainly(s, b)
	got := Do(s, b)
	if !same(got, want) || !same(Own(got), want) {
		t.Fatalf("%v behind %v: %v comes, not %v", b, s, got, want)
	}
	v := got.Verdicts[len(s.Verdicts)]
	if len(got.Verdicts) != len(s.Verdicts)+1 || !slices.Equal(got.Verdicts[:len(s.Verdicts)], s.Verdicts) {
		t.Fatalf("%v behind %v: %v", b, s.Verdicts, got.Verdicts)
	}
	if v.Err != api.OK && !sameDecls(got.Decls, s.Decls) {
		t.Fatalf("%v: %v, and %v, of %v", b, v, got.Decls, s.Decls)
	}
	if v.Err == api.OK {
		// What is taken is those bytes, and nothing else.
		last := len(got.Decls) - 1
		if v.Part != 0 || last != len(s.Decls) || !sameDecls(got.Decls[:last], s.Decls) || !bytes.Equal(Bytes(got.Decls)[last], b) {
			t.Fatalf("%v: %v, and %v, of %v", b, v, got.Decls, s.Decls)
		}
	}
	return got
}

// enough: of what was taken alone comes the same, with a verdict each; and of its bytes, too.
func enough(t *testing.T, s api.Session) api.Session {
	t.Helper()
	got := All(Bytes(s.Decls))
	if !sameDecls(got.Decls, s.Decls) || !slices.Equal(got.Verdicts, ok(len(s.Decls))) {
		t.Fatalf("of %v comes %v", s, got)
	}
	return got
}

// each has f told all lists of at most so many of the letters, behind b.
func each(b, letters []byte, most int, f func([]byte)) {
	f(b)
	if most == 0 {
		return
	}
	for _, x := range letters {
		each(append(b[:len(b):len(b)], x), letters, most-1, f)
	}
}

// TestL1AllShort: whatever few bytes there are, they are taken, or refused, as the chapter tells.
func TestL1AllShort(t *testing.T) {
	verdicts := map[api.Verdict]int{}
	for _, s := range []api.Session{{}, Do(ahead(t, 1), nil)} {
		f := func(b []byte) {
			got := hold(t, s, b)
			verdicts[got.Verdicts[len(s.Verdicts)]]++
		}
		for x := range 256 {
			f([]byte{byte(x)})
			f([]byte{byte(x), 'x'})
			f([]byte{1, 'x', byte(x), api.TmZero})
			f([]byte{1, 'x', api.TmNat, byte(x)})
			f([]byte{1, byte(x), api.TmNat, api.TmZero})
			f([]byte{1, 'x', api.TmU, byte(x), api.TmNat})
			f([]byte{1, 'x', api.TmNat, api.TmDef, byte(x)})
		}
		each(nil, []byte{0, 1, 2, 'x', api.TmNat, api.TmZero}, 5, f)
		each(called("x"), []byte{0, 1, 2, 3, 4, 5, 8, 14, 15, 16, 18}, 4, f)
		each(called("x", api.TmNat), []byte{0, 1, 4, 5, 14, 15, 16, 18}, 5, f)
	}
	for _, v := range []api.Verdict{{}, {Err: api.ErrEnd}, {Err: api.ErrKind}, {Err: api.ErrForm}, {Err: api.ErrName}, {Err: api.ErrRange, Part: 1}, {Err: api.ErrRange, Part: 2}, {Err: api.ErrSort, Part: 1}, {Err: api.ErrType, Part: 2}, {Err: api.ErrFun, Part: 1}, {Err: api.ErrFun, Part: 2}, {Err: api.ErrPair, Part: 1}} {
		if verdicts[v] < 10 {
			t.Errorf("%v comes %d times", v, verdicts[v])
		}
	}
}

// mixed are so many declarations as bytes, some of them spoiled: numbers that come of each other choose.
func mixed(seed uint32, many int) [][]byte {
	pick := picker(seed)
	var out [][]byte
	for range many {
		n, k := byte(pick(5)), byte(pick(4))
		parts := [][]byte{
			{api.TmNat, api.TmZero}, {api.TmNat, api.TmSuc, api.TmDef, n}, {api.TmNat, api.TmDef, n}, {api.TmU, k, api.TmDef, n}, {api.TmU, k + 1, api.TmU, k}, {api.TmU, 0, api.TmNat},
			{api.TmDef, n, api.TmZero}, {api.TmDef, n, api.TmDef, k}, {api.TmPi, api.TmNat, api.TmNat, api.TmLam, api.TmNat, api.TmVar, k / 3}, {api.TmPi, api.TmDef, n, api.TmDef, k, api.TmDef, n},
			{api.TmNat, api.TmApp, api.TmDef, n, api.TmDef, k}, {api.TmSig, api.TmNat, api.TmNat, api.TmPair, api.TmNat, api.TmNat, api.TmDef, n, api.TmDef, k}, {api.TmNat, api.TmFst, api.TmDef, n}, {api.TmNat, api.TmStar},
		}
		b := called(string(rune('a'+pick(20))), parts[pick(len(parts))]...)
		switch pick(12) {
		case 0:
			b = b[:pick(len(b))]
		case 1:
			b = append(b, byte(pick(20)))
		case 2:
			b[pick(len(b))] = byte(pick(20))
		}
		out = append(out, b)
	}
	return out
}

// TestL1AllIsDo: of a list comes what comes of each one, one behind the other; and the way there does not matter: what
// comes next hangs on what was taken alone.
func TestL1AllIsDo(t *testing.T) {
	verdicts := map[api.Verdict]int{}
	full := 0
	for seed := range uint32(400) {
		l := mixed(seed, int(seed%70))
		var s api.Session
		for i, b := range l {
			short := enough(t, s)
			s = hold(t, s, b)
			if got := Do(short, b); !sameDecls(got.Decls, s.Decls) || got.Verdicts[len(short.Verdicts)] != s.Verdicts[i] {
				t.Fatalf("%v behind %v: %v comes, not %v", b, short, got, s)
			}
			verdicts[s.Verdicts[i]]++
		}
		if got := All(l); !same(got, s) || len(got.Verdicts) != len(l) {
			t.Fatalf("of %v comes %v, not %v", l, got, s)
		}
		if len(s.Decls) == api.MaxDecls {
			full++
		}
	}
	for _, v := range []api.Verdict{{}, {Err: api.ErrEnd}, {Err: api.ErrKind}, {Err: api.ErrForm}, {Err: api.ErrName}, {Err: api.ErrMany}, {Err: api.ErrRange, Part: 1}, {Err: api.ErrRange, Part: 2}, {Err: api.ErrSort, Part: 1}, {Err: api.ErrType, Part: 2}, {Err: api.ErrFun, Part: 2}, {Err: api.ErrPair, Part: 2}} {
		if verdicts[v] < 10 {
			t.Errorf("%v comes %d times", v, verdicts[v])
		}
	}
	if full < 20 {
		t.Errorf("%d sessions are full", full)
	}
}

// TestL1Enough: the bytes of what was taken are those that were taken, in turn.
func TestL1Enough(t *testing.T) {
	for seed := range uint32(200) {
		l := mixed(1000+seed, 40)
		s := All(l)
		var want [][]byte
		for i, v := range s.Verdicts {
			if v == (api.Verdict{}) {
				want = append(want, l[i])
			}
		}
		if got := Bytes(s.Decls); !slices.EqualFunc(got, want, bytes.Equal) {
			t.Fatalf("of %v comes %v", l, got)
		}
		enough(t, s)
	}
}

// TestL1NobodyProves: of nothing there is nothing: whatever bytes come behind such a type, they are refused.
func TestL1NobodyProves(t *testing.T) {
	s := ahead(t, 6)
	refusals := map[api.Verdict]int{}
	var longer func(b []byte, most int)
	longer = func(b []byte, most int) {
		v := Do(s, b).Verdicts[len(s.Verdicts)]
		refusals[v]++
		// Behind bytes that have an end, or that go wrong, there is nothing else.
		if v.Err != api.ErrEnd || most == 0 {
			return
		}
		for x := range byte(api.TmDef + 1) {
			longer(append(b[:len(b):len(b)], x), most-1)
		}
	}
	for _, of := range [][]byte{
		{api.TmEmpty},
		{api.TmApp, api.TmDef, 4, api.TmUnit},                         // (not unit)
		{api.TmPi, api.TmU, 0, api.TmVar, 0},                          // one of each type
		{api.TmSig, api.TmNat, api.TmEmpty},                           // with a number
		{api.TmApp, api.TmApp, api.TmDef, 5, api.TmU, 0, api.TmEmpty}, // no type: U0 is too high for id
	} {
		longer(append(called("x"), of...), 4)
	}
	if refusals[api.Verdict{}] > 0 || refusals[api.Verdict{Err: api.ErrType, Part: 2}] < 100 {
		t.Errorf("%v", refusals)
	}
}

// TestL1OnlyReads: what is handed in is as it was, and so is its spare room.
func TestL1OnlyReads(t *testing.T) {
	bs := [][]byte{nil, {0}, called("one", api.TmNat, api.TmZero), called("x", api.TmNat, api.TmDef, 0), called("x", api.TmNat, api.TmStar), called("x", api.TmZero, api.TmNat), called("x", api.TmNat, api.TmZero, 0)}
	for many := range 7 {
		s, old := roomySession(Do(ahead(t, many), nil)), roomySession(Do(ahead(t, many), nil))
		for _, b := range bs {
			room := append(slices.Clone(b), 7, 8, 9)
			Do(s, room[:len(b)])
			if !bytes.Equal(room, append(slices.Clone(b), 7, 8, 9)) {
				t.Errorf("%v becomes %v", b, room)
			}
			Own(s)
			Bytes(s.Decls)
			if !sameRoomSession(s, old) {
				t.Fatalf("behind %v: %v becomes %v", b, old, s)
			}
		}
	}
	l := append(slices.Clone(bs), []byte{1}, []byte{2})
	All(l[:len(bs)])
	if !slices.EqualFunc(l, append(slices.Clone(bs), []byte{1}, []byte{2}), bytes.Equal) {
		t.Errorf("%v", l)
	}
}

// TestL1RoomIsNoMatter: what is in spare room changes no answer.
func TestL1RoomIsNoMatter(t *testing.T) {
	s := Do(ahead(t, 4), nil)
	rooms := roomySession(s)
	for _, b := range [][]byte{nil, called("x", api.TmNat, api.TmZero), called("one", api.TmNat, api.TmZero)} {
		for many := range len(b) + 1 {
			if got, want := Do(rooms, b[:many]), Do(s, slices.Clone(b[:many])); !same(got, want) {
				t.Errorf("%v: %v, not %v", b[:many], got, want)
			}
		}
	}
	if !same(Own(rooms), s) || !slices.EqualFunc(Bytes(rooms.Decls), Bytes(s.Decls), bytes.Equal) {
		t.Errorf("%v", rooms)
	}
}

// TestL1KeepsNothing: what was handed in may be overwritten: what was answered stays.
func TestL1KeepsNothing(t *testing.T) {
	x, bad := called("x", api.TmPi, api.TmNat, api.TmNat, api.TmLam, api.TmNat, api.TmVar, 0), called("x", api.TmNat, api.TmStar)
	for many := range 7 {
		for _, b := range [][]byte{nil, x, bad, {0}} {
			s, want := roomySession(Do(ahead(t, many), nil)), Do(Do(ahead(t, many), nil), b)
			given := slices.Clone(b)
			got, copied, bs := Do(s, given), Own(s), Bytes(s.Decls)
			spoilSession(s)
			spoilBytes(given)
			if !same(got, want) || !same(copied, Do(ahead(t, many), nil)) || !slices.EqualFunc(bs, Bytes(base(many)), bytes.Equal) {
				t.Fatalf("%v: %v, and %v, and %v", want, got, copied, bs)
			}
		}
		l := append(Bytes(base(many)), slices.Clone(bad), slices.Clone(x))
		got, want := All(l), Do(Do(ahead(t, many), bad), x)
		for i := range l {
			spoilBytes(l[i])
			l[i] = nil
		}
		if !same(got, want) {
			t.Fatalf("%v, not %v", got, want)
		}
	}
}

// TestL1NewMemory: what is answered may be overwritten, with its spare room: neither what was handed in, nor what was
// answered ahead or comes behind, is changed.
func TestL1NewMemory(t *testing.T) {
	b := called("x", api.TmPi, api.TmNat, api.TmNat, api.TmLam, api.TmNat, api.TmVar, 0)
	for many := range 7 {
		start := Do(ahead(t, many), nil)
		s, old := roomySession(start), roomySession(start)
		for _, b := range [][]byte{nil, b, called("x", api.TmNat, api.TmStar)} {
			first, want := Do(s, b), Do(s, b)
			for _, got := range []api.Session{Do(s, b), Do(first, b), Own(first), Own(s), All(append(Bytes(s.Decls), b))} {
				apart(t, got.Decls)
				spoilSession(got)
			}
			for _, b := range Bytes(first.Decls) {
				spoilBytes(b)
			}
			if !sameRoomSession(s, old) || !same(first, want) {
				t.Fatalf("%v: %v becomes %v, and %v %v", b, old, s, want, first)
			}
		}
	}
	// No two of the bytes share any.
	l := Bytes(append(base(6), base(6)...))
	for i := range l {
		spoilBytes(l[i])
		for _, b := range l[i+1:] {
			if b[0] == 200 || slices.Contains(b, 200) {
				t.Fatalf("%d: %v", i, l)
			}
		}
	}
}
