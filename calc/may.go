package calc

import (
	"jalousie/api"
	"jalousie/rat"
)

// mayAt asks of an expression that stands in so many (itself counted). The depth is asked on the way down, so that an expression which holds itself comes to an end too.
func mayAt(e api.Expr, depth int) bool {
	if depth > api.MaxExpr {
		return false
	}
	if e.Kind == api.ENum {
		return rat.May(e.Num) && e.Unit >= none && e.Unit <= cqh && len(e.Kids) == 0
	}
	if e.Num != (api.Rat{}) || e.Unit != none || !countMay(e.Kind, len(e.Kids)) {
		return false
	}
	for _, kid := range e.Kids {
		if !mayAt(kid, depth+1) {
			return false
		}
	}
	return true
}

// countMay tells whether an expression of this kind may have so many kids.
func countMay(kind, kids int) bool {
	switch kind {
	case api.ESum, api.EProd, api.EMin, api.EMax:
		return kids >= 1
	case api.ENeg, api.EInv:
		return kids == 1
	case api.EClamp:
		return kids == 3
	}
	return false
}

// shaped tells of an expression that may be whether the grammar gives it.
func shaped(e api.Expr) bool {
	switch e.Kind {
	case api.ENum:
		return true
	case api.ESum:
		return len(e.Kids) > 1 && kidsShaped(e.Kids, api.ENeg)
	case api.EProd:
		return len(e.Kids) > 1 && kidsShaped(e.Kids, api.EInv)
	case api.EMin, api.EMax, api.EClamp:
		return kidsShaped(e.Kids, noKind)
	}
	// ENeg and EInv stand only where kidsShaped looks through them.
	return false
}

// kidsShaped looks through those kids, but the first, that are of the kind turned.
func kidsShaped(kids []api.Expr, turned int) bool {
	for i, kid := range kids {
		if i > 0 && kid.Kind == turned {
			kid = kid.Kids[0]
		}
		if !shaped(kid) {
			return false
		}
	}
	return true
}
