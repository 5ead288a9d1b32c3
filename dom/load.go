package dom

import "jalousie/api"

// Load tells the tree of the elements of l.
func Load(l []api.Elem) (*Tree, api.Errno) {
	if len(l) == 0 {
		return nil, api.ErrArg
	}
	if len(l) > api.MaxNodes {
		return nil, api.ErrFull
	}
	last := -1 // below each number
	for _, e := range l {
		if fault := elemFault(e, last); fault != api.OK {
			return nil, fault
		}
		last = e.Id
	}
	if !kidsFit(l) {
		return nil, api.ErrNode
	}
	t := built(l, last+1)
	if fault := t.hangFault(); fault != api.OK {
		return nil, fault
	}
	return t, api.OK
}

// elemFault tells what is wrong with e alone, behind one with the number last.
func elemFault(e api.Elem, last int) api.Errno {
	switch {
	case e.Id <= last || e.Id > api.MaxId:
		return api.ErrIndex
	case !MayName(e.Tag):
		return api.ErrName
	case len(e.Attrs) > api.MaxAttrs:
		return api.ErrFull
	}
	if fault := attrsFault(e.Attrs); fault != api.OK {
		return fault
	}
	if !MayBox(e.Box) {
		return api.ErrSize
	}
	return api.OK
}

// attrsFault tells what is wrong with the first wrong one of l.
func attrsFault(l []api.Attr) api.Errno {
	last := "" // ahead of each name
	for _, a := range l {
		if !MayName(a.Name) || a.Name <= last {
			return api.ErrName
		}
		if len(a.Value) > api.MaxWord {
			return api.ErrLong
		}
		last = a.Name
	}
	return api.OK
}

// kidsFit tells whether l has one root, and each kid of one is an element whose Parent that is, and stands there once.
// Elements that are nobody's kids may be left: no way leads to them from the root, which hangFault tells.
func kidsFit(l []api.Elem) bool {
	parents := make(map[int]int, len(l))
	roots := 0
	for _, e := range l {
		parents[e.Id] = e.Parent
		if e.Parent == none {
			roots++
		}
	}
	listed := make(map[int]int, len(l))
	for _, e := range l {
		for _, kid := range e.Kids {
			parent, there := parents[kid]
			listed[kid]++
			if !there || parent != e.Id || listed[kid] > 1 {
				return false
			}
		}
	}
	return roots == 1
}

// built tells the tree of l, in memory of its own.
func built(l []api.Elem, next int) *Tree {
	t := &Tree{arena: make(map[int]*api.Elem, len(l)), next: next}
	for _, e := range l {
		t.arena[e.Id] = taken(e)
		if e.Parent == none {
			t.root = e.Id
		}
	}
	return t
}

// hangFault tells what is wrong with how the elements hang on the root.
func (t *Tree) hangFault() api.Errno {
	met, deepest := 0, 0
	t.walk(t.root, func(e *api.Elem, depth int) {
		met++
		deepest = max(deepest, depth)
	})
	switch {
	case met < len(t.arena): // the others are nobody's kids, or hang in rings
		return api.ErrNode
	case deepest > api.MaxTree:
		return api.ErrDeep
	}
	return api.OK
}
