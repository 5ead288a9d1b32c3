package calc

import "jalousie/api"

// noKind is neither KNumber nor KLength, nor a kind that an expression has.
const noKind = 0

// kindOf tells the kind of an expression that may be.
func kindOf(e api.Expr) int {
	switch e.Kind {
	case api.ENum:
		if e.Unit == none {
			return api.KNumber
		}
		return api.KLength
	case api.EProd:
		return productKind(e.Kids)
	case api.EInv:
		if kindOf(e.Kids[0]) == api.KNumber {
			return api.KNumber
		}
		return noKind
	}
	return commonKind(e.Kids)
}

// commonKind tells the kind that all kids have.
func commonKind(kids []api.Expr) int {
	common := kindOf(kids[0])
	for _, kid := range kids[1:] {
		if kindOf(kid) != common {
			return noKind
		}
	}
	return common
}

// productKind tells the kind of a product: one length at most, and else numbers.
func productKind(kids []api.Expr) int {
	product := api.KNumber
	for _, kid := range kids {
		switch kind := kindOf(kid); {
		case kind == api.KNumber:
		case kind == api.KLength && product == api.KNumber:
			product = api.KLength
		default:
			return noKind
		}
	}
	return product
}
