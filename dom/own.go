package dom

import (
	"strings"

	"jalousie/api"
)

// fresh tells an element as it is when it is new.
func fresh(id, parent int, tag string) *api.Elem {
	zero := api.Rat{Num: 0, Den: 1}
	return &api.Elem{Id: id, Parent: parent, Tag: strings.Clone(tag), Box: api.Box{Type: api.BoxNone, W: zero, H: zero}}
}

// ownElem tells e with lists that nothing else shares.
func ownElem(e api.Elem) api.Elem {
	e.Kids = ownList(e.Kids)
	e.Attrs = ownList(e.Attrs)
	return e
}

// taken tells e, which is handed in, in memory of the tree's own. Texts too are copied, here and below: one that was cut out of a long text would keep all of it.
func taken(e api.Elem) *api.Elem {
	e = ownElem(e)
	e.Tag = strings.Clone(e.Tag)
	for i, a := range e.Attrs {
		e.Attrs[i] = takenAttr(a.Name, a.Value)
	}
	e.Box = takenBox(e.Box)
	return &e
}

// takenAttr tells an attribute in memory of its own.
func takenAttr(name, value string) api.Attr {
	return api.Attr{Name: strings.Clone(name), Value: strings.Clone(value)}
}

// takenBox tells b in memory of its own.
func takenBox(b api.Box) api.Box {
	b.Name = strings.Clone(b.Name)
	return b
}

// ownList tells l in memory of its own; nil of an empty one, however it came to be empty.
func ownList[T any](l []T) []T {
	if len(l) == 0 {
		return nil
	}
	own := make([]T, len(l))
	copy(own, l)
	return own
}
