package wire

import (
	"bytes"
	"slices"
	"strings"
	"testing"

	"sortkernel/api"
	"sortkernel/term"
)

func v(n int) api.Term { return api.Term{Kind: api.TmVar, N: n} }

func m(kind int, args ...api.Term) api.Term { return api.Term{Kind: kind, Args: args} }

var (
	nat  = m(api.TmNat)
	zero = m(api.TmZero)
)

// under is t with so many TmSuc around it.
func under(t api.Term, many int) api.Term {
	for range many {
		t = m(api.TmSuc, t)
	}
	return t
}

// sucs are the bytes of so many TmSuc, and what is behind them.
func sucs(many int, behind ...byte) []byte {
	return append(bytes.Repeat([]byte{api.TmSuc}, many), behind...)
}

// written are terms, and their bytes, each kind among them.
var written = []struct {
	t api.Term
	b []byte
}{
	{v(0), []byte{1, 0}}, {v(7), []byte{1, 7}}, {v(255), []byte{1, 255}},
	{api.Term{Kind: api.TmU}, []byte{2, 0}}, {api.Term{Kind: api.TmU, N: 3}, []byte{2, 3}},
	{m(api.TmPi, nat, v(0)), []byte{3, 14, 1, 0}},
	{m(api.TmLam, nat, m(api.TmApp, v(2), v(0))), []byte{4, 14, 5, 1, 2, 1, 0}},
	{m(api.TmApp, zero, nat), []byte{5, 15, 14}},
	{m(api.TmSig, nat, zero), []byte{6, 14, 15}},
	{m(api.TmPair, nat, v(3), zero, v(1)), []byte{7, 14, 1, 3, 15, 1, 1}},
	{m(api.TmFst, v(1)), []byte{8, 1, 1}}, {m(api.TmSnd, v(1)), []byte{9, 1, 1}},
	{m(api.TmUnit), []byte{10}}, {m(api.TmStar), []byte{11}}, {m(api.TmEmpty), []byte{12}},
	{m(api.TmAbsurd, nat, v(0)), []byte{13, 14, 1, 0}},
	{nat, []byte{14}}, {zero, []byte{15}},
	{m(api.TmSuc, v(3)), []byte{16, 1, 3}}, // three binders ago: three bytes
	{m(api.TmRec, nat, zero, m(api.TmSuc, v(0)), v(4)), []byte{17, 14, 15, 16, 1, 0, 1, 4}},
	{api.Term{Kind: api.TmDef, N: 255}, []byte{18, 255}},
	{under(nat, api.MaxDeep-1), sucs(api.MaxDeep-1, 14)},
}

func TestB1Term(t *testing.T) {
	for _, c := range written {
		for _, ahead := range [][]byte{nil, {}, {9}, {0, 255, 14}} {
			if got := Term(ahead, c.t); !bytes.Equal(got, append(slices.Clone(ahead), c.b...)) {
				t.Errorf("Term(%v, %v) is %v", ahead, c.t, got)
			}
		}
	}
	if got := Term(nil, api.Term{Kind: api.TmNat, N: 5}); !bytes.Equal(got, []byte{14}) {
		t.Errorf("N is written of a kind that has none: %v", got)
	}
}

// TestB1TermKeepsB: what is ahead stays, in the list that was handed in too.
func TestB1TermKeepsB(t *testing.T) {
	room := []byte{1, 2, 3, 4, 5, 6, 7, 8}
	got := Term(room[:2], m(api.TmSuc, v(3)))
	if !bytes.Equal(got, []byte{1, 2, 16, 1, 3}) || !bytes.Equal(room[:2], []byte{1, 2}) || !bytes.Equal(room[5:], []byte{6, 7, 8}) {
		t.Errorf("%v comes, and %v is left", got, room)
	}
	full := []byte{1, 2}
	got = Term(full[:2:2], nat)
	got[0] = 9
	if full[0] != 1 {
		t.Error("a list without spare room is shared")
	}
}

func TestB1Get(t *testing.T) {
	for _, c := range written {
		for _, behind := range [][]byte{nil, {0}, {7, 8}, {255, 255, 255}} {
			got, rest, e := Get(append(slices.Clone(c.b), behind...))
			if e != api.OK || !term.Same(got, c.t) || !bytes.Equal(rest, behind) {
				t.Errorf("Get(%v, and %v) is %v, %v, %d", c.b, behind, got, rest, e)
			}
		}
		for k := range c.b {
			refused(t, c.b[:k], api.ErrEnd)
		}
	}
	for n := range 256 {
		for _, kind := range []int{api.TmVar, api.TmU, api.TmDef} {
			got, rest, e := Get([]byte{byte(kind), byte(n)})
			if e != api.OK || !term.Same(got, api.Term{Kind: kind, N: n}) || len(rest) != 0 {
				t.Errorf("Get(%d, %d) is %v, %v, %d", kind, n, got, rest, e)
			}
		}
	}
}

// refused: Get tells this error of b, and nothing else.
func refused(t *testing.T, b []byte, want api.Errno) {
	t.Helper()
	got, rest, e := Get(b)
	if e != want || !term.Same(got, api.Term{}) || len(rest) != 0 {
		t.Errorf("Get(%v) is %v, %v, %d, not %d", b, got, rest, e, want)
	}
}

func TestB1GetWrong(t *testing.T) {
	for kind := range 256 {
		if kind < api.TmVar || kind > api.TmDef {
			refused(t, []byte{byte(kind)}, api.ErrKind)
			refused(t, []byte{byte(kind), 14, 14}, api.ErrKind)
			refused(t, []byte{api.TmApp, api.TmNat, byte(kind)}, api.ErrKind)
		}
	}
	for _, c := range []struct {
		b    []byte
		want api.Errno
	}{
		{nil, api.ErrEnd}, {[]byte{}, api.ErrEnd},
		{[]byte{14, 15}[:0], api.ErrEnd}, {[]byte{16, 14}[:1], api.ErrEnd}, {[]byte{1, 0}[:1], api.ErrEnd},
		{sucs(api.MaxDeep-1, 19), api.ErrKind}, {sucs(api.MaxDeep - 1), api.ErrEnd}, {sucs(api.MaxDeep-1, 1), api.ErrEnd},
		{sucs(api.MaxDeep, 14), api.ErrDeep}, {sucs(api.MaxDeep, 19), api.ErrDeep}, {sucs(api.MaxDeep), api.ErrDeep},
		{sucs(1<<16, 14), api.ErrDeep}, {sucs(1 << 20), api.ErrDeep},
		{append([]byte{5, 14}, sucs(api.MaxDeep-1, 14)...), api.ErrDeep},
		{[]byte{5, 19, 1}, api.ErrKind}, {[]byte{5, 1, 19}, api.ErrEnd}, {[]byte{5, 14, 1}, api.ErrEnd},
		{append([]byte{5, 0}, sucs(api.MaxDeep, 14)...), api.ErrKind},
		{append([]byte{5}, append(sucs(api.MaxDeep, 14), 0)...), api.ErrDeep},
	} {
		refused(t, c.b, c.want)
	}
	wide := append([]byte{5}, append(sucs(api.MaxDeep-2, 14), sucs(api.MaxDeep-2, 14)...)...)
	if got, _, e := Get(wide); e != api.OK || term.Size(got) != len(wide) {
		t.Errorf("two that are as deep as may be, beside each other: %d", e)
	}
	much := bytes.Repeat([]byte{5}, 12)
	much = append(much, bytes.Repeat([]byte{7, 14, 14, 14, 14}, 13)...)
	if got, _, e := Get(much); e != api.OK || term.Size(got) != len(much) || term.Size(got) <= api.MaxSize {
		t.Errorf("a term may be more than is right: %d", e)
	}
}

// TestB1GetAll: of all short lists of bytes that have kinds of all sorts in them, what Get takes is what Term writes,
// and what ends too soon is a beginning of something that is taken.
func TestB1GetAll(t *testing.T) {
	letters := []byte{0, api.TmVar, api.TmU, api.TmLam, api.TmPair, api.TmNat, api.TmSuc, api.TmRec, api.TmDef, 19}
	for _, b := range allOf(letters, 5) {
		got, rest, e := Get(b)
		switch e {
		case api.OK:
			if !bytes.Equal(append(Term(nil, got), rest...), b) {
				t.Fatalf("Get(%v) is %v, %v", b, got, rest)
			}
		case api.ErrEnd:
			filled := append(slices.Clone(b), bytes.Repeat([]byte{api.TmNat}, 4*len(b)+1)...)
			if _, _, e := Get(filled); e != api.OK {
				t.Fatalf("%v ends too soon, and goes on to %d", b, e)
			}
		case api.ErrKind:
			if !bytes.ContainsAny(b, "\x00\x13") {
				t.Fatalf("Get(%v) finds no such kind", b)
			}
		default:
			t.Fatalf("Get(%v) is %d", b, e)
		}
	}
}

// allOf are the lists of so many letters at most.
func allOf(letters []byte, most int) [][]byte {
	out := [][]byte{nil}
	for i := 0; len(out[i]) < most; i++ {
		for _, c := range letters {
			out = append(out, append(slices.Clone(out[i]), c))
		}
	}
	return out
}

// TestB1GetAnswersNewMemory: neither is b changed by the answer, nor the answer by b.
func TestB1GetAnswersNewMemory(t *testing.T) {
	room := []byte{5, 14, 15, 7, 8, 99, 99}
	got, rest, _ := Get(room[:5])
	_ = append(rest, 1, 2)
	rest[0] = 6
	if !bytes.Equal(room, []byte{5, 14, 15, 7, 8, 99, 99}) {
		t.Errorf("what was handed in is %v", room)
	}
	clear(room)
	if !term.Same(got, m(api.TmApp, nat, zero)) || rest[1] != 8 {
		t.Errorf("%v, %v is left, once what was handed in was changed", got, rest)
	}
}

func TestB1Decl(t *testing.T) {
	for _, c := range []struct {
		d    api.Decl
		want []byte
	}{
		{api.Decl{Name: "one", Type: nat, Body: m(api.TmSuc, zero)}, []byte{3, 'o', 'n', 'e', 14, 16, 15}},
		{api.Decl{Type: nat, Body: zero}, []byte{0, 14, 15}},
		{api.Decl{Name: "\x00\xff(", Type: v(9), Body: v(255)}, []byte{3, 0, 255, '(', 1, 9, 1, 255}},
		{api.Decl{Name: strings.Repeat("n", 255), Type: nat, Body: zero}, append(append([]byte{255}, bytes.Repeat([]byte{'n'}, 255)...), 14, 15)},
	} {
		got := Decl(c.d)
		if !bytes.Equal(got, c.want) {
			t.Errorf("Decl(%v) is %v", c.d, got)
		}
		takenAs(t, got, c.d)
		for k := range got {
			declRefused(t, got[:k], api.ErrEnd)
		}
		for _, more := range []byte{0, 14, 255} {
			declRefused(t, append(slices.Clone(got), more), api.ErrForm)
		}
	}
	for i, c := range written {
		d := api.Decl{Name: "d", Type: c.t, Body: written[(i+1)%len(written)].t}
		takenAs(t, Decl(d), d)
	}
}

// takenAs: GetDecl answers d of b.
func takenAs(t *testing.T, b []byte, d api.Decl) {
	t.Helper()
	got, e := GetDecl(b)
	if e != api.OK || got.Name != d.Name || !term.Same(got.Type, d.Type) || !term.Same(got.Body, d.Body) {
		t.Errorf("GetDecl(%v) is %v, %d", b, got, e)
	}
}

// declRefused: GetDecl tells this error of b, and nothing else.
func declRefused(t *testing.T, b []byte, want api.Errno) {
	t.Helper()
	got, e := GetDecl(b)
	if e != want || got.Name != "" || !term.Same(got.Type, api.Term{}) || !term.Same(got.Body, api.Term{}) {
		t.Errorf("GetDecl(%v) is %v, %d, not %d", b, got, e, want)
	}
}

func TestB1GetDeclWrong(t *testing.T) {
	name := func(behind ...byte) []byte { return append([]byte{1, 'a'}, behind...) }
	for _, c := range []struct {
		b    []byte
		want api.Errno
	}{
		{nil, api.ErrEnd}, {[]byte{}, api.ErrEnd}, {[]byte{0}, api.ErrEnd}, {[]byte{1}, api.ErrEnd}, {[]byte{255, 14, 14}, api.ErrEnd},
		{[]byte{2, 'a', 'b', 14, 15}[:2], api.ErrEnd}, {[]byte{0, 14, 15}[:2], api.ErrEnd},
		{name(0), api.ErrKind}, {name(19, 14), api.ErrKind}, {name(14, 0), api.ErrKind}, {name(14, 19, 0), api.ErrKind},
		{name(sucs(api.MaxDeep, 14, 14)...), api.ErrDeep}, {name(append([]byte{14}, sucs(api.MaxDeep, 14)...)...), api.ErrDeep},
		{name(0, 1), api.ErrKind}, {name(16, 14), api.ErrEnd}, {name(14, 1), api.ErrEnd},
		{name(append([]byte{0}, sucs(api.MaxDeep, 14)...)...), api.ErrKind}, {name(append(sucs(api.MaxDeep, 14), 0)...), api.ErrDeep},
		{name(14, 0, 14, 14), api.ErrKind}, {name(14, 14, 0), api.ErrForm}, {name(14, 14, 14), api.ErrForm},
	} {
		declRefused(t, c.b, c.want)
	}
}

// TestB1AnythingIsWritten: of what is more than bytes can tell nothing is promised, but that the calls end.
func TestB1AnythingIsWritten(t *testing.T) {
	Decl(api.Decl{Name: strings.Repeat("n", 256)})
	for _, n := range []int{-1, 256, 1 << 40} {
		Term(nil, api.Term{Kind: n, N: n, Args: []api.Term{v(n), nat}})
	}
}

func TestB1GetDeclKeepsNothing(t *testing.T) {
	b := []byte{3, 'o', 'n', 'e', 14, 16, 15}
	d, _ := GetDecl(b)
	clear(b)
	takenAs(t, []byte{3, 'o', 'n', 'e', 14, 16, 15}, d)
	b = Decl(d)
	clear(b[:cap(b)])
	takenAs(t, Decl(d), d)
}
