package cond

import "jalousie/api"

func isTruth(x int) bool { return x >= api.TFalse && x <= api.TTrue }

// truth tells x; of a number that is no truth TUnknown.
func truth(x int) int {
	if !isTruth(x) {
		return api.TUnknown
	}
	return x
}

func known(is bool) int {
	if is {
		return api.TTrue
	}
	return api.TFalse
}

// truthOf tells the truth of a condition that may be. All leaves are asked, each once, from the left, whatever those ahead of it have told.
func truthOf(c api.Cond, f func(api.Leaf) int) int {
	if c.Kind == api.KLeaf {
		return leafTruth(c.Leaf, f)
	}
	kids := make([]int, len(c.Kids))
	for i, kid := range c.Kids {
		kids[i] = truthOf(kid, f)
	}
	switch c.Kind {
	case api.KAnd:
		return And(kids...)
	case api.KOr:
		return Or(kids...)
	}
	return Not(kids[0])
}

func leafTruth(l api.Leaf, f func(api.Leaf) int) int {
	switch l.Kind {
	case api.LUnknown:
		return api.TUnknown
	case api.LTruth:
		return l.Truth
	}
	return told(l, f)
}

// told tells what f tells of l: TUnknown, if that is no truth, and so if f panics, which tells nothing.
func told(l api.Leaf, f func(api.Leaf) int) (x int) {
	x = api.TUnknown
	if f == nil {
		return x
	}
	defer func() { _ = recover() }()
	x = truth(f(l))
	return x
}
