package match

import (
	"cmp"
	"slices"
	"strings"

	"jalousie/api"
	"jalousie/dom"
	"jalousie/memo"
	"jalousie/sel"
)

// Hit is a list that an element meets, and the greatest weight of its selectors that it meets.
type Hit struct {
	List   int
	Weight api.Weight
}

// Table finds of many lists those that an element meets. A nil one is as one of no lists.
type Table struct {
	byKey map[key][]entry
	asked memo.Count
}

// entry is a selector of a list.
type entry struct {
	list   int
	weight api.Weight
	c      api.Complex
}

// New tells a table of those lists.
func New(lists [][]api.Complex) *Table {
	x := &Table{byKey: map[key][]entry{}}
	for i, l := range lists {
		for _, c := range l {
			weight, e := sel.Weigh(c)
			if e != api.OK {
				continue
			}
			own := ownComplex(c)
			k := keyOf(own)
			x.byKey[k] = append(x.byKey[k], entry{list: i, weight: weight, c: own})
		}
	}
	return x
}

// Hits tells which lists an element meets, by rising numbers.
func (x *Table) Hits(t *dom.Tree, id int) []Hit {
	v, at, ok := around(t, id)
	if x == nil || !ok {
		return nil
	}
	var l []Hit
	for _, k := range v.keys(at) {
		for _, e := range x.byKey[k] {
			x.asked.Add(1)
			if v.meets(at, e.c) {
				l = append(l, Hit{List: e.list, Weight: e.weight})
			}
		}
	}
	slices.SortFunc(l, byListHeaviestFirst)
	return slices.CompactFunc(l, func(a, b Hit) bool { return a.List == b.List })
}

// Asked tells how many selectors all Hits have looked at closer than by their keys.
func (x *Table) Asked() int64 {
	if x == nil {
		return 0
	}
	return x.asked.Value()
}

func byListHeaviestFirst(a, b Hit) int {
	switch {
	case a.List != b.List:
		return cmp.Compare(a.List, b.List)
	case sel.Less(b.Weight, a.Weight):
		return -1
	case sel.Less(a.Weight, b.Weight):
		return 1
	}
	return 0
}

// ownComplex tells a copy of c that shares nothing with it: a table outlives the call that it was handed to.
func ownComplex(c api.Complex) api.Complex {
	parts := slices.Clone(c.Parts)
	for i := range parts {
		parts[i].Simples = slices.Clone(parts[i].Simples)
		for j := range parts[i].Simples {
			own(&parts[i].Simples[j])
		}
	}
	return api.Complex{Parts: parts}
}

func own(s *api.Simple) {
	s.Name, s.Value = strings.Clone(s.Name), strings.Clone(s.Value)
	s.List = slices.Clone(s.List)
	for i := range s.List {
		s.List[i] = ownComplex(s.List[i])
	}
}
