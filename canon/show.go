package canon

import (
	"strconv"

	"sortkernel/api"
	"sortkernel/eval"
)

// Show is what t comes to, of type of, where nothing is bound.
func Show(decls []api.Decl, t, of api.Term) string {
	m := eval.NewMaker(decls, 0)
	s := &shower{}
	s.next(part{what: m.Later(&t), of: m.Later(&of)})
	return s.all()
}

// shower writes what is left, the last one first.
//
// Halves of pairs are a list, and no calls within one another: types come to more of them than calls can be deep.
type shower struct {
	out  []byte
	left []part
}

// part is what is still to be written: a value, and its type; the text, if there is none.
type part struct {
	text     string
	what, of *eval.Later
}

// next has l written ahead of all that is left, the first one first.
func (s *shower) next(l ...part) {
	for i := range l {
		s.left = append(s.left, l[len(l)-1-i])
	}
}

func (s *shower) all() string {
	for len(s.left) > 0 {
		last := len(s.left) - 1
		p := s.left[last]
		// What was worked out of it may go.
		s.left[last] = part{}
		s.left = s.left[:last]
		if p.of == nil {
			s.out = append(s.out, p.text...)
		} else {
			s.value(p.what, p.of.Now())
		}
	}
	return string(s.out)
}

// value writes what is of type of. There is nothing of other types; of what does not have the type nothing is promised,
// and nothing is written.
func (s *shower) value(what *eval.Later, of *eval.Value) {
	switch {
	case of.Is(api.TmNat, 0):
		if n, ok := count(what); ok {
			s.out = strconv.AppendInt(s.out, int64(n), 10)
		}
	case of.Is(api.TmUnit, 0):
		s.out = append(s.out, '*')
	case of.Is(api.TmPi, 2):
		s.out = append(s.out, "fn"...)
	case of.Is(api.TmSig, 2):
		s.pair(what, of)
	case of.Is(api.TmU, 0):
		s.out = append(s.out, word(what.Now().Kind)...)
	}
}

// pair has both halves be next; what type the second one is of hangs on the first one.
func (s *shower) pair(what *eval.Later, of *eval.Value) {
	first, second := eval.Of(api.TmFst, what), eval.Of(api.TmSnd, what)
	s.next(part{text: "("}, part{what: first, of: of.Arg(0)}, part{text: ", "}, part{what: second, of: of.Arg(1, first)}, part{text: ")"})
}

// word is how a type is shown, by its kind.
func word(kind int) string {
	switch kind {
	case api.TmNat:
		return "nat"
	case api.TmUnit:
		return "unit"
	case api.TmEmpty:
		return "empty"
	case api.TmPi:
		return "pi"
	case api.TmSig:
		return "sig"
	case api.TmU:
		return "U"
	}
	return ""
}
