package calc

import (
	"jalousie/api"
	"jalousie/rat"
)

// alone reads one expression, with TSpace around it.
func alone(l []api.Value) (api.Expr, bool) {
	c := &cursor{l}
	c.spaces()
	v := c.take()
	c.spaces()
	if !c.done() {
		return api.Expr{}, false
	}
	return expression(v)
}

func expression(v api.Value) (api.Expr, bool) {
	switch v.Tok.Kind {
	case api.TNumber:
		return number(v.Tok.Num, api.UNone), true
	case api.TDim:
		unit := Unit(v.Tok.Text)
		if unit == api.UNone {
			return api.Expr{}, false
		}
		return number(v.Tok.Num, unit), true
	case api.TFunc:
		return function(v.Tok.Text, v.Kids)
	}
	return api.Expr{}, false
}

func number(num api.Rat, unit int) api.Expr {
	if !rat.May(num) {
		num = api.Rat{}
	}
	return api.Expr{Kind: api.ENum, Num: num, Unit: unit}
}

func function(name string, l []api.Value) (api.Expr, bool) {
	switch {
	case alike(name, "calc"):
		return oneSum(l)
	case alike(name, "min"):
		return ofSums(api.EMin, l)
	case alike(name, "max"):
		return ofSums(api.EMax, l)
	case alike(name, "clamp"):
		return ofSums(api.EClamp, l)
	}
	return api.Expr{}, false
}

func oneSum(l []api.Value) (api.Expr, bool) {
	kids, ok := sums(l)
	if !ok || len(kids) > 1 {
		return api.Expr{}, false
	}
	return kids[0], true
}

func ofSums(kind int, l []api.Value) (api.Expr, bool) {
	kids, ok := sums(l)
	if !ok || !countMay(kind, len(kids)) {
		return api.Expr{}, false
	}
	return api.Expr{Kind: kind, Kids: kids}, true
}

// sums reads sums with commas between them, one at least. It cuts at the commas as rule.Split does, but on the way: Split copies what it cuts, so of functions in one another each would copy all the inner ones once more. How deep they may go rule.May has asked.
func sums(l []api.Value) ([]api.Expr, bool) {
	c := &cursor{l}
	var kids []api.Expr
	for {
		c.spaces()
		kid, ok := sum(c)
		if !ok {
			return nil, false
		}
		kids = append(kids, kid)
		c.spaces()
		if c.done() {
			return kids, true
		}
		if c.take().Tok.Kind != api.TComma {
			return nil, false
		}
	}
}

func sum(c *cursor) (api.Expr, bool) {
	return chain(api.ESum, api.ENeg,
		func() (api.Expr, bool) { return product(c) },
		func() (bool, bool) { return operator(c, "+", "-", true) })
}

func product(c *cursor) (api.Expr, bool) {
	return chain(api.EProd, api.EInv,
		func() (api.Expr, bool) { return operand(c) },
		func() (bool, bool) { return operator(c, "*", "/", false) })
}

// chain reads parts as long as an operator follows: one part alone is told as it is, several as the kids of an expression of the kind. What the operator turns stands in an expression of the kind turned.
func chain(kind, turned int, part func() (api.Expr, bool), operator func() (turns, found bool)) (api.Expr, bool) {
	first, ok := part()
	if !ok {
		return api.Expr{}, false
	}
	kids := []api.Expr{first}
	for turns, found := operator(); found; turns, found = operator() {
		kid, ok := part()
		if !ok {
			return api.Expr{}, false
		}
		if turns {
			kid = api.Expr{Kind: turned, Kids: []api.Expr{kid}}
		}
		kids = append(kids, kid)
	}
	if len(kids) == 1 {
		return first, true
	}
	return api.Expr{Kind: kind, Kids: kids}, true
}

// operator takes the TDelim on or back, with the TSpace around it (which must be there, if it is spaced), and tells whether it is back. If there is none, nothing is taken: another operator may stand there.
func operator(c *cursor, on, back string, spaced bool) (turns, found bool) {
	start := c.rest
	ahead := c.spaces()
	turns = c.delim(back)
	found = turns || c.delim(on)
	behind := c.spaces()
	if !found || spaced && !(ahead && behind) {
		c.rest = start
		return false, false
	}
	return turns, true
}

func operand(c *cursor) (api.Expr, bool) {
	v := c.take()
	if v.Tok.Kind == api.TOpenParen {
		return oneSum(v.Kids)
	}
	return expression(v)
}
