package sel

import (
	"jalousie/api"
	"jalousie/spell"
)

// listMay asks of a list that stands in so many (itself counted). The depth is asked on the way down, so that a list which holds itself comes to an end too.
func listMay(l []api.Complex, depth int) bool {
	if len(l) == 0 || depth > api.MaxNest+1 {
		return false
	}
	for _, c := range l {
		if !complexMay(c, depth) {
			return false
		}
	}
	return true
}

func complexMay(c api.Complex, depth int) bool {
	for i, part := range c.Parts {
		if !combMay(part.Comb, i == 0) || !compoundMay(part.Simples, depth) {
			return false
		}
	}
	return len(c.Parts) > 0
}

func combMay(comb int, first bool) bool {
	if first {
		return comb == api.CNone
	}
	return comb >= api.CDown && comb <= api.CLater
}

func compoundMay(l []api.Simple, depth int) bool {
	for i, s := range l {
		if i > 0 && (s.Kind == api.STag || s.Kind == api.SAny) {
			return false
		}
		if !onlyItsFields(s) || !simpleMay(s, depth) {
			return false
		}
	}
	return len(l) > 0
}

// onlyItsFields tells whether each field is zero that means nothing in a selector of its kind.
func onlyItsFields(s api.Simple) bool {
	switch s.Kind {
	case api.STag, api.SClass, api.SId:
		s.Name = ""
	case api.SAttr:
		s.Name, s.Op, s.Value, s.Fold = "", api.OpHas, "", false
	case api.SNot, api.SIs, api.SWhere:
		s.List = nil
	case api.SNth, api.SLastOf:
		s.A, s.B = 0, 0
	}
	return s.Name == "" && s.Op == api.OpHas && s.Value == "" && !s.Fold && len(s.List) == 0 && s.A == 0 && s.B == 0
}

func simpleMay(s api.Simple, depth int) bool {
	switch s.Kind {
	case api.SAny, api.SRoot, api.SEmpty, api.SFirst, api.SLast, api.SOnly:
		return true
	case api.STag, api.SClass, api.SId:
		return isName(s.Name)
	case api.SAttr:
		return holdsBlock(depth) && attrMay(s)
	case api.SNot, api.SIs, api.SWhere:
		return listMay(s.List, depth+1)
	case api.SNth, api.SLastOf:
		return holdsBlock(depth) && isStep(s.A) && isStep(s.B)
	}
	return false
}

// holdsBlock tells whether a block or function may still stand in a list at this depth: each list but the outermost stands in one already.
func holdsBlock(depth int) bool {
	return depth <= api.MaxNest
}

func attrMay(s api.Simple) bool {
	if s.Op == api.OpHas && (s.Value != "" || s.Fold) {
		return false
	}
	return isName(s.Name) && s.Op >= api.OpHas && s.Op <= api.OpIn && isText(s.Value)
}

func isName(s string) bool {
	return spell.May(api.Token{Kind: api.TIdent, Text: s})
}

func isText(s string) bool {
	return spell.May(api.Token{Kind: api.TString, Text: s})
}

func isStep(n int) bool {
	return n >= -api.MaxStep && n <= api.MaxStep
}
