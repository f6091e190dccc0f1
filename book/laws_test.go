package book

import (
	"slices"
	"strings"
	"testing"

	"sortkernel/api"
	"sortkernel/decl"
	"sortkernel/term"
	"sortkernel/text"
)

// plainly is Read's answer, as the chapter tells it, of at most MaxText bytes.
func plainly(l []api.Decl, words []string) (api.Decl, api.Errno) {
	n := len(words)
	if n < 3 || !slices.Equal(words[:2], []string{"(", "def"}) || words[n-1] != ")" {
		return api.Decl{}, api.ErrForm
	}
	if !text.Name(words[2]) {
		return api.Decl{}, api.ErrName
	}
	count := func(l []string, bracket string) int { return strings.Count(strings.Join(l, " "), bracket) }
	others := words[3 : n-1]
	var parts [2]string
	for i := range parts {
		many := min(1, len(others))
		for many < len(others) && count(others[:many], ")") < count(others[:many], "(") {
			many++
		}
		parts[i], others = strings.Join(others[:many], " "), others[many:]
	}
	if len(others) > 0 {
		return api.Decl{}, api.ErrForm
	}
	of, e := text.Parse(parts[0], nil, decl.Names(l))
	body, other := text.Parse(parts[1], nil, decl.Names(l))
	if e == api.OK {
		e = other
	}
	if e != api.OK {
		return api.Decl{}, e
	}
	return api.Decl{Name: words[2], Type: of, Body: body}, api.OK
}

// TestI1ReadWords: whatever few words there are, they are read as plainly tells.
func TestI1ReadWords(t *testing.T) {
	l := base(1)
	errors := map[api.Errno]int{}
	hold := func(words []string) {
		s := strings.Join(words, " ")
		want, e := plainly(l, words)
		if e != api.OK {
			no(t, l, s, e)
		} else {
			is(t, l, s, want)
		}
		errors[e]++
	}
	sequences(nil, []string{"(", ")", "def", "x", "nat"}, 6, hold)
	sequences([]string{"(", "def", "x"}, []string{"(", ")", "nat", "suc", "one", "nope", "U4"}, 6, hold)
	sequences([]string{"(", "def"}, []string{"(", ")", "x"}, 9, hold)
	if t.Failed() {
		t.FailNow()
	}
	for _, e := range []api.Errno{api.OK, api.ErrForm, api.ErrName, api.ErrEnd, api.ErrNone, api.ErrRange} {
		if errors[e] < 20 {
			t.Errorf("%d comes %d times", e, errors[e])
		}
	}
}

// TestI1WrittenAndReadAgain: what is written is read as what it was; blanks are no matter; and one more byte is none.
func TestI1WrittenAndReadAgain(t *testing.T) {
	l := base(6)
	terms := []api.Term{nat, zero, m(api.TmStar), m(api.TmUnit), m(api.TmEmpty), {Kind: api.TmU, N: 3}, def(0), def(5)}
	for _, d := range l {
		terms = append(terms, d.Type, d.Body, m(api.TmApp, d.Body, d.Type), m(api.TmSig, d.Type, v(0)), m(api.TmAbsurd, d.Type, d.Body), m(api.TmFst, m(api.TmSnd, d.Body)), m(api.TmPair, d.Type, v(0), def(1), d.Body))
	}
	loose := strings.NewReplacer(" ", "\n  ", "(", " ( ", ")", "\n)\n")
	tight := strings.NewReplacer(" (", "(", ") ", ")")
	for _, of := range terms {
		for _, body := range terms {
			d := api.Decl{Name: "d", Type: of, Body: body}
			s := Line(l, d)
			for _, s := range []string{s, loose.Replace(s), tight.Replace(s)} {
				is(t, l, s, d)
			}
			if got, e := Read(l, s+")"); e != api.ErrForm {
				t.Errorf("%q and a bracket is read: %v, %d", s, got, e)
			}
			for i := range s {
				if d, e := Read(l, s[:i]); e == api.OK {
					t.Errorf("%q is read: %v", s[:i], d)
				}
			}
		}
	}
}

// TestI1WrittenLarge: of the largest ones that are right a line is read, too.
func TestI1WrittenLarge(t *testing.T) {
	l := []api.Decl{{Name: "abcdefgh", Type: nat, Body: zero}}
	// Each one has the most bytes to a term: names that are bound, and those that are declared.
	wide := def(0)
	for term.Size(wide)+4 <= api.MaxSize {
		if term.Size(wide) < 25 {
			wide = m(api.TmRec, wide, def(0), def(0), def(0))
		} else {
			wide = m(api.TmRec, def(0), def(0), def(0), wide)
		}
	}
	wide = m(api.TmFst, m(api.TmSnd, m(api.TmSuc, wide)))
	d := api.Decl{Name: "abcdefgi", Type: wide, Body: wide}
	if term.Size(wide) != api.MaxSize || term.Wrong(wide, 0, 1) != api.OK {
		t.Fatalf("%d, %d", term.Size(wide), term.Wrong(wide, 0, 1))
	}
	if s := Line(l, d); len(s) < 1000 || len(s) > api.MaxText {
		t.Errorf("%d bytes: %q", len(s), s)
	}
	is(t, l, Line(l, d), d)
}

// mixed is a text of so many lines, of which some are taken: numbers that come of each other choose.
func mixed(seed uint32, many int) string {
	pick := func(l ...string) string {
		seed = seed*1664525 + 1013904223
		return l[int(seed>>16)%len(l)]
	}
	name := func() string { return pick("a", "b", "c", "d", "e", "f", "g", "h", "i", "j", "k", "l", "m", "n", "o") }
	out := ""
	for range many {
		of := pick("nat", "nat", "U0", "U1", "(pi nat n nat)", "zero", name(), "U4")
		body := pick("zero", "(suc "+name()+")", "nat", "U0", "(fn nat n n)", name(), "(suc zero", "star")
		line := pick("(def "+name()+" "+of+" "+body+")", "(def "+name()+" "+of+" "+body+")", "(def "+name()+" nat zero)", "(def "+name()+" U0 nat)", "(def "+name()+" nat "+name()+")", "(def suc nat zero)", "(def "+name()+" nat)", "( def "+name()+" nat(suc "+name()+" ) )", " ", "")
		out += line + pick("\n", "\n", "\n\n")
	}
	return out
}

// TestI1LoadIsReadAndAdd: line by line, to what was taken ahead.
func TestI1LoadIsReadAndAdd(t *testing.T) {
	errors := map[api.Verdict]int{}
	for seed := range uint32(300) {
		s := mixed(seed, int(seed%80))
		var want []api.Decl
		var verdicts []api.Verdict
		for _, line := range strings.Split(s, "\n") {
			if line == "" {
				continue
			}
			var v api.Verdict
			d, e := Read(want, line)
			v.Err = e
			if e == api.OK {
				want, v = decl.Add(want, d)
			}
			verdicts = append(verdicts, v)
			errors[v]++
		}
		got, vs := Load(s)
		if !sameDecls(got, want) || !slices.Equal(vs, verdicts) {
			t.Fatalf("%q: %v comes, and %v, not %v, and %v", s, got, vs, want, verdicts)
		}
	}
	for _, v := range []api.Verdict{{}, {Err: api.ErrForm}, {Err: api.ErrRange}, {Err: api.ErrMany}, {Err: api.ErrNone}, {Err: api.ErrName}, {Err: api.ErrEnd}, {Err: api.ErrType, Part: 2}, {Err: api.ErrSort, Part: 1}} {
		if errors[v] < 20 {
			t.Errorf("%v comes %d times", v, errors[v])
		}
	}
}

// TestI1TakenAgain: what is taken is written, and taken again; what is refused leaves nothing; one behind the other it is
// the same as at once.
func TestI1TakenAgain(t *testing.T) {
	for seed := range uint32(300) {
		s := mixed(seed, 40)
		got, vs := Load(s)
		again, all := Load(Print(got))
		if !sameDecls(again, got) || !slices.Equal(all, ok(len(got))) {
			t.Fatalf("%q: %v comes, and %v, not %v", Print(got), again, all, got)
		}
		fit, at := "", 0
		for line := range strings.SplitSeq(s, "\n") {
			if line == "" {
				continue
			}
			if vs[at].Err == api.OK {
				fit += line + "\n"
			}
			at++
		}
		if again, all = Load(fit); !sameDecls(again, got) || !slices.Equal(all, ok(len(got))) {
			t.Fatalf("%q: %v comes, and %v, not %v", fit, again, all, got)
		}
		if again, all = Load(Print(got) + s); !sameDecls(again[:len(got)], got) || !slices.Equal(all[:len(got)], ok(len(got))) {
			t.Fatalf("%q: %v comes, and %v, not %v", Print(got)+s, again, all, got)
		}
	}
}

// TestI1OnlyReads: what is handed in is only read; on its spare room nothing hangs.
func TestI1OnlyReads(t *testing.T) {
	plain, more := base(6), []api.Decl{{Name: "two", Type: nat, Body: zero}, {Name: "one", Type: nat, Body: zero}, {Name: "one", Type: nat, Body: zero}}
	l := roomyAll(plain, more)
	if got := Print(l); got != strings.Join(lines, "\n")+"\n" {
		t.Errorf("%q", got)
	}
	if got := Print(l[:2]); got != lines[0]+"\n"+lines[1]+"\n" {
		t.Errorf("%q", got)
	}
	for i, d := range l {
		if got := Line(l[:i], d); got != lines[i] {
			t.Errorf("%q", got)
		}
	}
	is(t, l, "(def x nat one)", api.Decl{Name: "x", Type: nat, Body: def(0)})
	no(t, l, "(def x nat two)", api.ErrNone)
	no(t, l[:1], "(def x nat add)", api.ErrNone)
	if !sameRoomAll(l, roomyAll(plain, more), len(more)) {
		t.Error("what is handed in is changed")
	}
}

// TestI1NewMemory: no two lists of answers are one, and what is put behind one is in no other one.
func TestI1NewMemory(t *testing.T) {
	s := "(def a U0 (sig (sig nat n nat) m (sig nat n nat)))\n(def b U0 (sig (sig nat n nat) m (sig nat n nat)))\n(def b U0 nat)"
	got, vs := Load(s)
	again, _ := Load(s)
	d, e := Read(got, "(def a U0 (sig (sig nat n nat) m (sig nat n nat)))")
	same, _ := Read(got, "(def a U0 (sig (sig nat n nat) m (sig nat n nat)))")
	if len(got) != 2 || len(vs) != 3 || e != api.OK {
		t.Fatalf("%v, %v, %d", got, vs, e)
	}
	many := map[*api.Term]int{}
	for _, d := range slices.Concat(got, again, []api.Decl{d, same}) {
		lists(d.Type, many)
		lists(d.Body, many)
	}
	if len(many) != 6*3 {
		t.Errorf("%d lists, not %d", len(many), 6*3)
	}
	_, _ = append(got, api.Decl{Name: "x"}), append(vs, api.Verdict{Part: 5})
	got[0], vs[0] = api.Decl{}, api.Verdict{Part: 5}
	if third, ws := Load(s); !sameDecls(third, again) || ws[0] != (api.Verdict{}) {
		t.Errorf("%v, %v", third, ws)
	}
}

// TestI1Wrong: of bytes that are no text nothing panics.
func TestI1Wrong(t *testing.T) {
	for i := range 256 {
		for _, s := range []string{string([]byte{byte(i)}), "(def x nat " + string([]byte{byte(i)}) + ")", "(def " + string([]byte{byte(i)}), string([]byte{byte(i), byte(i), '\n', byte(i)})} {
			if _, e := Read(base(6), s); e == api.OK {
				t.Errorf("%q is read", s)
			}
			if got, vs := Load(s); len(got) > 0 || len(vs) > strings.Count(s, "\n")+1 {
				t.Errorf("%q: %v, %v", s, got, vs)
			}
		}
	}
}
