package match

import (
	"slices"

	"jalousie/api"
)

// meets tells whether the element at that index meets c.
func (v *view) meets(at int, c api.Complex) bool {
	return v.meeting(c, set{}.with(at)) != set{}
}

// meeting tells which of those elements meet c. It asks all of them at once, compound by compound: to try out each way through the tree for itself would take as many steps as there are ways.
func (v *view) meeting(c api.Complex, among set) set {
	fit := make([]set, len(c.Parts)) // by compounds: who meets it, of those to whom the combinators behind it lead
compounds:
	for i, part := range slices.Backward(c.Parts) {
		for _, s := range part.Simples {
			among = v.narrowed(among, s)
			if among == (set{}) {
				break compounds
			}
		}
		fit[i] = among
		among = v.behind(part.Comb, among)
	}
	met := fit[0]
	for i, part := range c.Parts[1:] {
		met = fit[i+1].those(func(at int) bool { return v.nodes[at].back[part.Comb].crosses(met) })
	}
	return met
}

// behind tells to whom a combinator leads from those elements.
func (v *view) behind(comb int, from set) set {
	var to set
	from.each(func(at int) { to = to.or(v.nodes[at].back[comb]) })
	return to
}

// some tells which of those elements meet one of l.
func (v *view) some(l []api.Complex, among set) set {
	var met set
	for _, c := range l {
		met = met.or(v.meeting(c, among.minus(met)))
	}
	return met
}

// narrowed tells which of those elements meet a simple selector.
func (v *view) narrowed(among set, s api.Simple) set {
	switch s.Kind {
	case api.SNot:
		return among.minus(v.some(s.List, among))
	case api.SIs, api.SWhere:
		return v.some(s.List, among)
	}
	return among.those(v.test(s))
}

// test tells a function that asks an element whether it meets a simple selector without a list.
func (v *view) test(s api.Simple) func(at int) bool {
	switch s.Kind {
	case api.STag:
		return func(at int) bool { return v.elem(at).Tag == s.Name }
	case api.SClass:
		return func(at int) bool { return slices.Contains(v.tree.Classes(v.nodes[at].id), s.Name) }
	case api.SId:
		return v.attrTest("id", func(value string) bool { return value == s.Name })
	case api.SAttr:
		return v.attrTest(s.Name, valueTest(s))
	case api.SRoot:
		return func(at int) bool { return at == 0 }
	case api.SEmpty:
		return func(at int) bool { return len(v.elem(at).Kids) == 0 }
	}
	return v.placeTest(s)
}

func (v *view) attrTest(name string, pass func(value string) bool) func(at int) bool {
	return func(at int) bool {
		value, ok := v.tree.Attr(v.nodes[at].id, name)
		return ok && pass(value)
	}
}

// placeTest asks where among its parent's kids an element stands.
func (v *view) placeTest(s api.Simple) func(at int) bool {
	return func(at int) bool {
		n := &v.nodes[at]
		fromLast := n.kin + 1 - n.place
		switch s.Kind {
		case api.SFirst:
			return n.place == 1
		case api.SLast:
			return fromLast == 1
		case api.SOnly:
			return n.kin == 1
		case api.SNth:
			return onStep(s.A, s.B, n.place)
		case api.SLastOf:
			return onStep(s.A, s.B, fromLast)
		}
		return true // SAny
	}
}

// onStep tells whether there is a whole n, not below 0, with a n + b = i.
func onStep(a, b, i int) bool {
	if a == 0 {
		return i == b
	}
	return (i-b)%a == 0 && (i-b)/a >= 0
}
