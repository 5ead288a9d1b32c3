package rule

import (
	"slices"

	"jalousie/api"
)

// nest is tokens, and what the openers among them hold. It is found once for a whole list: what an opener holds is the same in each list within, since an opener's closer is never that of one outside.
type nest struct {
	list  []api.Token
	ends  []int // of an opener: its closer's place, or the list's end; of any other token: its own place
	depth []int // how deep the value nests that begins here
}

func nestOf(l []api.Token) nest {
	n := nest{list: l, ends: make([]int, len(l)), depth: make([]int, len(l))}
	var open []int
	for i, t := range l {
		n.ends[i] = i
		if closerOf(t.Kind) != none {
			open = append(open, i)
			continue
		}
		if len(open) > 0 && t.Kind == closerOf(l[open[len(open)-1]].Kind) {
			open = n.shut(open, i)
		}
	}
	for len(open) > 0 {
		open = n.shut(open, len(l))
	}
	return n
}

// shut ends the innermost of the openers that are open, and tells the others. Until then its depth is that of the deepest value found in it.
func (n nest) shut(open []int, end int) []int {
	inner, rest := open[len(open)-1], open[:len(open)-1]
	n.ends[inner] = end
	n.depth[inner]++
	if len(rest) > 0 {
		outer := rest[len(rest)-1]
		n.depth[outer] = max(n.depth[outer], n.depth[inner])
	}
	return rest
}

// behind steps over the value at a place, in a list that ends at to.
func (n nest) behind(at, to int) int {
	if at >= to {
		return to
	}
	return min(n.ends[at]+1, to)
}

// until steps over values up to a token of one of these kinds, or to the list's end: where that is, and whether none of the values was too deep.
func (n nest) until(at, to int, kinds ...int) (int, bool) {
	ok := true
	for at < to && !slices.Contains(kinds, n.list[at].Kind) {
		ok = ok && n.depth[at] <= api.MaxNest
		at = n.behind(at, to)
	}
	return at, ok
}

// holder is an opener whose Kids are being found; the outermost one holds the whole list, and is none itself.
type holder struct {
	value api.Value
	end   int
}

// values tells the component values between two places, neither of which stands within one.
func (n nest) values(from, to int) []api.Value {
	path := []holder{{end: to}}
	for at := from; at < to; at++ {
		top := &path[len(path)-1]
		switch t := n.list[at]; {
		case at == top.end:
			path = hand(path)
		case closerOf(t.Kind) != none:
			path = append(path, holder{value: api.Value{Tok: t}, end: n.ends[at]})
		default:
			top.value.Kids = append(top.value.Kids, api.Value{Tok: t})
		}
	}
	for len(path) > 1 {
		path = hand(path)
	}
	return path[0].value.Kids
}

// hand hands the innermost value, which is whole, to the one that holds it.
func hand(path []holder) []holder {
	inner, rest := path[len(path)-1], path[:len(path)-1]
	outer := &rest[len(rest)-1].value
	outer.Kids = append(outer.Kids, inner.value)
	return rest
}
