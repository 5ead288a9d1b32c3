package prop

import (
	"slices"

	"jalousie/api"
	"jalousie/calc"
	"jalousie/rule"
)

// customKind is the kind that Spec tells of a custom property, which it does not know.
const customKind = 0

// declared reads what l, which may be, declares for p.
func declared(p api.Prop, l []api.Value) (api.Val, bool) {
	if bad(l) || anywhere(l, isWrongUse) {
		return api.Val{}, false
	}
	l = rule.Trim(l)
	name := identOf(l)
	switch {
	case isWide(name):
		return api.Val{Kind: api.VWide, Word: name}, true
	case p.Kind == customKind || Vars(l):
		return api.Val{Kind: api.VVars, Tokens: rule.Flat(l)}, true
	case slices.Contains(p.Words, name):
		return api.Val{Kind: api.VWord, Word: name}, true
	}
	e, ok := expression(p.Kind, l)
	if !ok || !p.Low && isBelow(e) {
		return api.Val{}, false
	}
	return api.Val{Kind: api.VExpr, Expr: e}, true
}

func isWide(name string) bool {
	switch name {
	case "inherit", "initial", "unset":
		return true
	}
	return false
}

// identOf tells the name, in small letters, of the one TIdent that l is; nothing, if it is anything else. (A TIdent without a name, from a caller, is no word either.)
func identOf(l []api.Value) string {
	if len(l) != 1 || l[0].Tok.Kind != api.TIdent {
		return ""
	}
	return lower(l[0].Tok.Text)
}

// expression reads an expression of the kind that a property of this kind asks for.
func expression(kind int, l []api.Value) (api.Expr, bool) {
	switch kind {
	case api.PLength:
		if isNought(l) {
			return api.Expr{Kind: api.ENum, Num: api.Rat{Num: 0, Den: 1}, Unit: api.UPx}, true
		}
		return ofKind(api.KLength, l)
	case api.PNumber:
		return ofKind(api.KNumber, l)
	}
	return api.Expr{}, false
}

func ofKind(kind int, l []api.Value) (api.Expr, bool) {
	e, why := calc.Parse(l)
	if why != api.OK {
		return api.Expr{}, false
	}
	// Where the kinds do not go together, none is told, which is not the one that is asked for.
	got, _ := calc.Kind(e)
	return e, got == kind
}

// isNought tells whether l is the one number 0, which is a length without a unit, too.
func isNought(l []api.Value) bool {
	return len(l) == 1 && l[0].Tok.Kind == api.TNumber && l[0].Tok.Num == api.Rat{Num: 0, Den: 1}
}

// isBelow tells whether e is below 0 as it is written. What is over is not.
func isBelow(e api.Expr) bool {
	return e.Kind == api.ENum && e.Num.Num < 0
}
