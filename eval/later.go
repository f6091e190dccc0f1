package eval

import "sortkernel/api"

// Later is a value that is worked out when it is first asked for, and only then.
type Later struct {
	do   doing // nil, once it was done
	done *Value
}

// doing works a value out, and hands it to the one who asked.
//
// Nobody waits for a value within a call: values hang on others, and these on others, as often as numbers are large,
// and calls cannot be that deep within one another. So each call answers what is to be done next.
type doing func(to then) next

// then is what is done with a value.
type then func(v *Value) next

// next is what is to be done: v is handed on; nothing, if there is none to hand it to.
type next struct {
	to then
	v  *Value
}

func known(v *Value) *Later {
	return &Later{done: v}
}

// isFree is whether it is known to be what Free(ahead) is.
func (l *Later) isFree(ahead int) bool {
	return l.do == nil && l.done.Is(api.TmVar, 0) && l.done.N == ahead
}

// ask hands the value on, once it is worked out.
func (l *Later) ask(to then) next {
	if l.do == nil {
		return next{to, l.done}
	}
	return next{to: func(*Value) next {
		return l.do(func(v *Value) next {
			// What it was worked out of may go.
			l.do, l.done = nil, v
			return next{to, v}
		})
	}}
}

// Now is the value: all that is to be done for it is done, one behind the other.
func (l *Later) Now() *Value {
	n := l.ask(func(*Value) next { return next{} })
	for n.to != nil {
		n = n.to(n.v)
	}
	return l.done
}
