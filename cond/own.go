package cond

import "jalousie/api"

// own tells c in memory of its own.
func own(c api.Cond) api.Cond {
	c.Kids = ownList(c.Kids, own)
	c.Leaf = ownLeaf(c.Leaf)
	return c
}

func ownLeaf(l api.Leaf) api.Leaf {
	l.Expr = ownExpr(l.Expr)
	return l
}

func ownExpr(e api.Expr) api.Expr {
	e.Kids = ownList(e.Kids, ownExpr)
	return e
}

// ownList copies a list by a function that copies one of it.
func ownList[T any](l []T, own func(T) T) []T {
	if l == nil {
		return nil
	}
	list := make([]T, len(l))
	for i, x := range l {
		list[i] = own(x)
	}
	return list
}

// appendLeaves tells all, and behind it copies of the leaves of c, which may be.
func appendLeaves(all []api.Leaf, c api.Cond) []api.Leaf {
	if c.Kind == api.KLeaf {
		return append(all, ownLeaf(c.Leaf))
	}
	for _, kid := range c.Kids {
		all = appendLeaves(all, kid)
	}
	return all
}
