package unit

import (
	"jalousie/api"
	"jalousie/rat"
)

// px goes through a form that may be. All that there is goes into one sum, since a sum on the way may be over. What is nothing stays out of it: its unit's size, which may be over, must not tell.
func (s sizes) px(f api.Form) api.Rat {
	var l []api.Rat
	for i, r := range f.Units {
		if r != nothing {
			l = append(l, rat.Mul(r, s[i+1]))
		}
	}
	for _, p := range f.Parts {
		l = append(l, s.part(p))
	}
	return rat.Add(l...)
}

func (s sizes) part(p api.Part) api.Rat {
	l := make([]api.Rat, len(p.Args))
	for i, arg := range p.Args {
		l[i] = s.px(arg)
	}
	if p.Max {
		return rat.Most(l...)
	}
	return rat.Least(l...)
}

// direct goes through an expression whose kinds go together.
func (s sizes) direct(e api.Expr) api.Rat {
	if e.Kind == api.ENum {
		return s.written(e)
	}
	l := make([]api.Rat, len(e.Kids))
	for i, kid := range e.Kids {
		l[i] = s.direct(kid)
	}
	switch e.Kind {
	case api.ESum:
		return rat.Add(l...)
	case api.ENeg:
		return rat.Neg(l[0])
	case api.EProd:
		return rat.Mul(l...)
	case api.EInv:
		return rat.Div(rat.Of(1, 1), l[0])
	case api.EMin:
		return rat.Least(l...)
	case api.EMax:
		return rat.Most(l...)
	}
	return rat.Most(l[0], rat.Least(l[1], l[2]))
}

func (s sizes) written(e api.Expr) api.Rat {
	if e.Unit == api.UNone {
		return e.Num
	}
	return rat.Mul(e.Num, s[e.Unit])
}
