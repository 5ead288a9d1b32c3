package sel

import (
	"strings"

	"jalousie/api"
)

// maxDigits is how many digits may stand behind the n- of a name or unit.
const maxDigits = 10

// step reads A and B of A n + B, up to the end, ahead of which no TSpace stands.
func step(c *cursor) (a, b int, ok bool) {
	t := c.take().Tok
	switch t.Kind {
	case api.TNumber:
		b, ok = whole(t)
		return 0, b, ok && c.done()
	case api.TDim:
		if a, ok = whole(t); ok {
			b, ok = shiftBehind(lower(t.Text), c)
		}
		return a, b, ok
	case api.TIdent:
		return wordStep(lower(t.Text), c)
	}
	return 0, 0, false
}

// wordStep reads a step that begins with a TIdent of this name.
func wordStep(name string, c *cursor) (a, b int, ok bool) {
	switch name {
	case "odd":
		return 2, 1, c.done()
	case "even":
		return 2, 0, c.done()
	}
	a = 1
	if rest, turned := strings.CutPrefix(name, "-"); turned {
		a, name = -1, rest
	}
	b, ok = shiftBehind(name, c)
	return a, b, ok
}

// shiftBehind reads B: of what comes behind an n, or of the digits that a name or unit has behind its n-.
func shiftBehind(name string, c *cursor) (int, bool) {
	if name == "n" {
		return shift(c)
	}
	digits, ok := strings.CutPrefix(name, "n-")
	if !ok || !c.done() {
		return 0, false
	}
	n, ok := number(digits)
	return -n, ok
}

// shift reads nothing, a number, or a sign and a number that is not below 0.
func shift(c *cursor) (int, bool) {
	if c.done() {
		return 0, true
	}
	c.spaces()
	sign := 1
	switch {
	case c.delim("+"):
	case c.delim("-"):
		sign = -1
	default:
		return lastNumber(c)
	}
	c.spaces()
	n, ok := lastNumber(c)
	return sign * n, ok && n >= 0
}

// lastNumber reads a TNumber, behind which nothing may come.
func lastNumber(c *cursor) (int, bool) {
	t := c.take().Tok
	n, ok := whole(t)
	return n, ok && t.Kind == api.TNumber && c.done()
}

// whole tells the number of a token, if it may stand in a step. A raw Num that is in no lowest terms is as good as over.
func whole(t api.Token) (int, bool) {
	if !t.Int || t.Num.Den != 1 || t.Num.Num < -api.MaxStep || t.Num.Num > api.MaxStep {
		return 0, false
	}
	return int(t.Num.Num), true
}

// number tells the number of 1 to maxDigits digits, if it may stand in a step.
func number(digits string) (int, bool) {
	if digits == "" || len(digits) > maxDigits {
		return 0, false
	}
	n := 0
	for _, d := range digits {
		if d < '0' || d > '9' {
			return 0, false
		}
		n = n*10 + int(d-'0')
	}
	return n, isStep(n)
}
