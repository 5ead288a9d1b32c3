package cond

import "jalousie/api"

// deepest is how many conditions, or expressions, may stand in one another in anything that is handed in. Only what holds itself goes deeper, and would not end.
const deepest = 1 << 16

// sameAt asks of conditions that stand in so many (themselves counted).
func sameAt(a, b api.Cond, depth int) bool {
	if depth > deepest || a.Kind != b.Kind || len(a.Kids) != len(b.Kids) || !sameLeaf(a.Leaf, b.Leaf) {
		return false
	}
	for i := range a.Kids {
		if !sameAt(a.Kids[i], b.Kids[i], depth+1) {
			return false
		}
	}
	return true
}

func sameLeaf(a, b api.Leaf) bool {
	return a.Kind == b.Kind && a.Truth == b.Truth && a.Name == b.Name && a.Op == b.Op &&
		a.Word == b.Word && a.Value == b.Value && a.Any == b.Any && sameExprAt(a.Expr, b.Expr, 1)
}

func sameExprAt(a, b api.Expr, depth int) bool {
	if depth > deepest || a.Kind != b.Kind || a.Num != b.Num || a.Unit != b.Unit || len(a.Kids) != len(b.Kids) {
		return false
	}
	for i := range a.Kids {
		if !sameExprAt(a.Kids[i], b.Kids[i], depth+1) {
			return false
		}
	}
	return true
}
