package norm

import (
	"slices"

	"jalousie/api"
	"jalousie/rat"
)

// number goes through an expression whose kind is KNumber.
func number(e api.Expr) api.Rat {
	if e.Kind == api.ENum {
		return e.Num
	}
	l := make([]api.Rat, len(e.Kids))
	for i, kid := range e.Kids {
		l[i] = number(kid)
	}
	switch e.Kind {
	case api.ESum:
		return rat.Add(l...)
	case api.ENeg:
		return rat.Neg(l[0])
	case api.EProd:
		return rat.Mul(l...)
	case api.EInv:
		return rat.Div(rat.Of(1, 1), l[0])
	case api.EMin:
		return rat.Least(l...)
	case api.EMax:
		return rat.Most(l...)
	}
	return rat.Most(l[0], rat.Least(l[1], l[2]))
}

// form goes through an expression whose kind is KLength. What it tells on the way may nest deeper than a form may, so the calls of the face, which ask that, are not for it.
func form(e api.Expr) api.Form {
	switch e.Kind {
	case api.ENum:
		return One(e.Unit, e.Num)
	case api.EProd:
		return product(e.Kids)
	}
	l := make([]api.Form, len(e.Kids))
	for i, kid := range e.Kids {
		l[i] = form(kid)
	}
	switch e.Kind {
	case api.ESum:
		return sum(l...)
	case api.ENeg:
		return scaling(l[0], rat.Of(-1, 1))
	case api.EMin:
		return pick(false, l...)
	case api.EMax:
		return pick(true, l...)
	}
	return pick(true, l[0], pick(false, l[1], l[2]))
}

// product tells the form of the one length among kids, times the others.
func product(kids []api.Expr) api.Form {
	var length api.Form
	var numbers []api.Rat
	for _, kid := range kids {
		if isLength(kid) {
			length = form(kid)
		} else {
			numbers = append(numbers, number(kid))
		}
	}
	return scaling(length, rat.Mul(numbers...))
}

// isLength looks no further than it must: the kinds of e are known to go together.
func isLength(e api.Expr) bool {
	switch e.Kind {
	case api.ENum:
		return e.Unit != api.UNone
	case api.EProd:
		return slices.ContainsFunc(e.Kids, isLength)
	}
	return isLength(e.Kids[0])
}
