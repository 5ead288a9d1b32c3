package cond

import (
	"jalousie/api"
	"jalousie/calc"
)

// mayAt asks of a condition that stands in so many (itself counted). The depth is asked on the way down, so that a condition which holds itself comes to an end too.
func mayAt(c api.Cond, depth int) bool {
	if depth > api.MaxExpr || !countMay(c.Kind, len(c.Kids)) || !leafMay(c.Leaf) {
		return false
	}
	if c.Kind != api.KLeaf && c.Leaf.Kind != api.LUnknown {
		return false // of the leaves that may be, this one is the zero leaf
	}
	for _, kid := range c.Kids {
		if !mayAt(kid, depth+1) {
			return false
		}
	}
	return true
}

// countMay tells whether a condition of this kind may have so many kids.
func countMay(kind, kids int) bool {
	switch kind {
	case api.KAnd, api.KOr:
		return kids >= 1
	case api.KNot:
		return kids == 1
	case api.KLeaf:
		return kids == 0
	}
	return false
}

// The fields of a leaf beside its Kind, each a bit of a set.
const (
	truthField = 1 << iota
	nameField
	opField
	exprField
	wordField
	valueField
	anyField
)

// fieldsOf is which fields a leaf may have, by its kind.
var fieldsOf = [...]int{
	api.LUnknown: 0,
	api.LTruth:   truthField,
	api.LType:    nameField,
	api.LBool:    nameField,
	api.LCmp:     nameField | opField | exprField,
	api.LWord:    nameField | wordField,
	api.LStyle:   nameField | valueField | anyField,
}

func leafMay(l api.Leaf) bool {
	if l.Kind < 0 || l.Kind >= len(fieldsOf) || fieldsIn(l)&^fieldsOf[l.Kind] != 0 {
		return false
	}
	switch l.Kind {
	case api.LUnknown:
		return true
	case api.LTruth:
		return isTruth(l.Truth)
	case api.LCmp:
		return l.Name != "" && l.Op >= api.OpLt && l.Op <= api.OpGt && calc.May(l.Expr)
	case api.LStyle:
		return l.Name != "" && !(l.Any && l.Value != "")
	}
	return l.Name != ""
}

// fieldsIn tells which fields of l are not zero.
func fieldsIn(l api.Leaf) int {
	return field(truthField, l.Truth != 0) |
		field(nameField, l.Name != "") |
		field(opField, l.Op != 0) |
		field(exprField, !isZero(l.Expr)) |
		field(wordField, l.Word != "") |
		field(valueField, l.Value != "") |
		field(anyField, l.Any)
}

func field(bit int, there bool) int {
	if there {
		return bit
	}
	return 0
}

func isZero(e api.Expr) bool {
	return e.Kind == 0 && e.Num == (api.Rat{}) && e.Unit == 0 && len(e.Kids) == 0
}
