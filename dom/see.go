package dom

import (
	"maps"
	"slices"
	"strings"

	"jalousie/api"
)

// Root tells the root's number.
func (t *Tree) Root() int {
	if t == nil {
		return 0
	}
	return t.root
}

// Len tells how many elements there are.
func (t *Tree) Len() int {
	if t == nil {
		return 0
	}
	return len(t.arena)
}

// Next tells the number that the next new element will have.
func (t *Tree) Next() int {
	if t == nil {
		return 0
	}
	return t.next
}

// Elem tells the element of that number.
func (t *Tree) Elem(id int) (api.Elem, bool) {
	e := t.at(id)
	if e == nil {
		return api.Elem{}, false
	}
	return ownElem(*e), true
}

// Order tells all elements' numbers, in tree order.
func (t *Tree) Order() []int { return t.Below(t.Root()) }

// Below tells the numbers of an element and of all below it, in tree order.
func (t *Tree) Below(id int) []int {
	var l []int
	t.walk(id, func(e *api.Elem, _ int) { l = append(l, e.Id) })
	return l
}

// Place tells where among its parent's kids an element stands.
func (t *Tree) Place(id int) (int, bool) {
	e := t.at(id)
	if e == nil {
		return 0, false
	}
	if e.Parent == none {
		return 0, true
	}
	return slices.Index(t.arena[e.Parent].Kids, id), true
}

// Attr tells the value of an element's attribute.
func (t *Tree) Attr(id int, name string) (string, bool) {
	e := t.at(id)
	if e == nil {
		return "", false
	}
	i, found := attrPlace(e, name)
	if !found {
		return "", false
	}
	return e.Attrs[i].Value, true
}

// Classes tells the words of an element's attribute class, each once.
func (t *Tree) Classes(id int) []string {
	value, _ := t.Attr(id, "class")
	var l []string
	for _, piece := range strings.FieldsFunc(value, isBlank) {
		if !slices.Contains(l, piece) {
			l = append(l, piece)
		}
	}
	return l
}

// Elems tells all elements, by rising numbers.
func (t *Tree) Elems() []api.Elem {
	if t == nil {
		return nil
	}
	l := make([]api.Elem, 0, len(t.arena))
	for _, id := range slices.Sorted(maps.Keys(t.arena)) {
		l = append(l, ownElem(*t.arena[id]))
	}
	return l
}

// walk shows an element and all below it, in tree order, each with its depth as counted from 1 at that element.
func (t *Tree) walk(id int, show func(e *api.Elem, depth int)) {
	var down func(e *api.Elem, depth int)
	down = func(e *api.Elem, depth int) {
		show(e, depth)
		for _, kid := range e.Kids {
			down(t.arena[kid], depth+1)
		}
	}
	if e := t.at(id); e != nil {
		down(e, 1)
	}
}

// isBlank tells whether c parts one class from the next.
func isBlank(c rune) bool { return c == ' ' || c == '\t' || c == '\n' }
