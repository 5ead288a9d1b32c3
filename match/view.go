package match

import (
	"slices"

	"jalousie/api"
	"jalousie/dom"
)

// view is what a call sees of a tree: some elements, by indices: the root first. With each one those are there to which combinators lead from it: the ones above it, and the ones ahead of it.
type view struct {
	tree  *dom.Tree
	nodes []node
}

type node struct {
	id    int
	place int                 // among its parent's kids, from 1
	kin   int                 // how many kids its parent has
	back  [api.CLater + 1]set // by combinators: where they lead from here
	elem  *api.Elem           // nil, until it is asked for: most elements ahead never are
}

// whole sees all elements of a tree, in tree order.
func whole(t *dom.Tree) *view {
	v := &view{tree: t}
	if t.Len() == 0 {
		return v
	}
	v.addRoot()
	var down func(at int)
	down = func(at int) { v.addKids(at, len(v.elem(at).Kids), down) }
	down(0)
	return v
}

// around sees an element and what its meeting a selector may hang on: the ones above it, and the ones ahead of these. It tells the element's index, too.
func around(t *dom.Tree, id int) (*view, int, bool) {
	e, ok := t.Elem(id)
	if !ok {
		return nil, 0, false
	}
	var path []int // from the element up to a kid of the root
	for id != t.Root() {
		path = append(path, id)
		id = e.Parent
		e, _ = t.Elem(id)
	}
	v := &view{tree: t}
	v.addRoot()
	at := 0
	for _, kid := range slices.Backward(path) {
		place, _ := t.Place(kid)
		v.addKids(at, place+1, func(i int) { at = i })
	}
	return v, at, true
}

func (v *view) addRoot() {
	v.nodes = append(v.nodes, node{id: v.tree.Root(), place: 1, kin: 1})
}

// addKids adds the first n kids of the element at parent, and shows the index of each once it is there.
func (v *view) addKids(parent, n int, show func(at int)) {
	kids := v.elem(parent).Kids
	var back [api.CLater + 1]set
	back[api.CChild] = set{}.with(parent)
	back[api.CDown] = v.nodes[parent].back[api.CDown].with(parent)
	for i, id := range kids[:n] {
		at := len(v.nodes)
		v.nodes = append(v.nodes, node{id: id, place: i + 1, kin: len(kids), back: back})
		back[api.CNext] = set{}.with(at)
		back[api.CLater] = back[api.CLater].with(at)
		show(at)
	}
}

// elem tells the element at that index.
func (v *view) elem(at int) *api.Elem {
	n := &v.nodes[at]
	if n.elem == nil {
		e, _ := v.tree.Elem(n.id)
		n.elem = &e
	}
	return n.elem
}

// all tells the set of all that are seen.
func (v *view) all() set {
	var s set
	for i := range v.nodes {
		s = s.with(i)
	}
	return s
}
