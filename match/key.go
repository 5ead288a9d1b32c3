package match

import "jalousie/api"

// key is by what a selector is found: an id, a class or a tag, and its name. The zero key is that of selectors which have none of them, and of every element.
type key struct {
	kind int
	name string
}

// keyOf tells the key of a selector that may be.
func keyOf(c api.Complex) key {
	last := c.Parts[len(c.Parts)-1].Simples
	for _, kind := range [...]int{api.SId, api.SClass, api.STag} {
		for _, s := range last {
			if s.Kind == kind {
				return key{kind: kind, name: s.Name}
			}
		}
	}
	return key{}
}

// keys tells the keys that selectors may have which the element at that index meets, each once.
func (v *view) keys(at int) []key {
	id := v.nodes[at].id
	l := []key{{}, {kind: api.STag, name: v.elem(at).Tag}}
	if name, ok := v.tree.Attr(id, "id"); ok {
		l = append(l, key{kind: api.SId, name: name})
	}
	for _, name := range v.tree.Classes(id) {
		l = append(l, key{kind: api.SClass, name: name})
	}
	return l
}
