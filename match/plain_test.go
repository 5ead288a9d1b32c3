package match

import (
	"math/rand"
	"slices"
	"strings"
	"testing"

	"jalousie/api"
	"jalousie/dom"
	"jalousie/sel"
)

// plain reads the chapter's words a second time, element by element and way by way.
type plain struct {
	elems map[int]api.Elem
}

func newPlain(x *dom.Tree) plain {
	p := plain{elems: map[int]api.Elem{}}
	for _, e := range x.Elems() {
		p.elems[e.Id] = e
	}
	return p
}

func (p plain) attr(id int, name string) (string, bool) {
	for _, a := range p.elems[id].Attrs {
		if a.Name == name {
			return a.Value, true
		}
	}
	return "", false
}

// ahead: the ones ahead of an element among its parent's kids, and how many there are in all.
func (p plain) ahead(id int) ([]int, int) {
	parent, ok := p.elems[p.elems[id].Parent]
	if !ok {
		return nil, 1
	}
	return parent.Kids[:slices.Index(parent.Kids, id)], len(parent.Kids)
}

func words(s string) []string {
	return strings.FieldsFunc(s, func(c rune) bool { return c == ' ' || c == '\t' || c == '\n' })
}

func (p plain) meetsSimple(id int, s api.Simple) bool {
	before, kin := p.ahead(id)
	switch s.Kind {
	case api.SAny:
		return true
	case api.STag:
		return p.elems[id].Tag == s.Name
	case api.SClass:
		value, _ := p.attr(id, "class")
		return slices.Contains(words(value), s.Name)
	case api.SId:
		value, ok := p.attr(id, "id")
		return ok && value == s.Name
	case api.SAttr:
		value, ok := p.attr(id, s.Name)
		return ok && p.meetsValue(value, s)
	case api.SNot:
		return !p.meetsOne(id, s.List)
	case api.SIs, api.SWhere:
		return p.meetsOne(id, s.List)
	case api.SRoot:
		return p.elems[id].Parent == -1
	case api.SEmpty:
		return len(p.elems[id].Kids) == 0
	case api.SFirst:
		return len(before) == 0
	case api.SLast:
		return len(before) == kin-1
	case api.SOnly:
		return len(before) == 0 && kin == 1
	case api.SNth:
		return counted(s.A, s.B, len(before)+1)
	}
	return counted(s.A, s.B, kin-len(before))
}

func (p plain) meetsValue(value string, s api.Simple) bool {
	want := s.Value
	if s.Fold {
		// The values of these tests have letters of ASCII alone.
		value, want = strings.ToLower(value), strings.ToLower(want)
	}
	switch s.Op {
	case api.OpIs:
		return value == want
	case api.OpWord:
		return want != "" && !strings.ContainsAny(want, " \t\n") && slices.Contains(words(value), want)
	case api.OpDash:
		return value == want || len(value) > len(want) && value[:len(want)] == want && value[len(want)] == '-'
	case api.OpBegins:
		return want != "" && strings.Index(value, want) == 0
	case api.OpEnds:
		return want != "" && len(value) >= len(want) && value[len(value)-len(want):] == want
	case api.OpIn:
		return want != "" && strings.Index(value, want) >= 0
	}
	return true
}

func (p plain) meetsOne(id int, l []api.Complex) bool {
	return slices.ContainsFunc(l, func(c api.Complex) bool { return p.meets(id, c.Parts) })
}

func (p plain) meets(id int, parts []api.Compound) bool {
	last := parts[len(parts)-1]
	for _, s := range last.Simples {
		if !p.meetsSimple(id, s) {
			return false
		}
	}
	rest := parts[:len(parts)-1]
	if len(rest) == 0 {
		return true
	}
	before, _ := p.ahead(id)
	parent := p.elems[id].Parent
	switch last.Comb {
	case api.CDown:
		for ; parent != -1; parent = p.elems[parent].Parent {
			if p.meets(parent, rest) {
				return true
			}
		}
		return false
	case api.CChild:
		return parent != -1 && p.meets(parent, rest)
	case api.CNext:
		return len(before) > 0 && p.meets(before[len(before)-1], rest)
	}
	return slices.ContainsFunc(before, func(o int) bool { return p.meets(o, rest) })
}

// maker makes trees and selectors from a seed.
type maker struct {
	*rand.Rand
}

func (m maker) pick(l ...string) string { return l[m.Intn(len(l))] }

// tree: some elements, with numbers that have no order.
func (m maker) tree(most int) *dom.Tree {
	x, _ := dom.New(m.pick("a", "b"))
	for range m.Intn(most) {
		parent := x.Order()[m.Intn(x.Len())]
		e, _ := x.Elem(parent)
		id, _ := x.Insert(parent, m.Intn(len(e.Kids)+1), m.pick("a", "b", "c"))
		if m.Intn(9) == 0 {
			x.Remove(id)
		}
	}
	for _, id := range x.Order() {
		if m.Intn(2) == 0 {
			x.Set(id, "class", m.pick("", "k", "k l", "l\tk k", "L", " \n", "l l"))
		}
		if m.Intn(3) == 0 {
			x.Set(id, "id", m.pick("i", "j", "", "i j"))
		}
		if m.Intn(3) == 0 {
			x.Set(id, m.pick("n", "m"), m.pick("", "a", "A-b", "a-b a", "b a", "-a", "ab", " "))
		}
	}
	return x
}

func (m maker) list(depth int) []api.Complex {
	var l []api.Complex
	for range 1 + m.Intn(3)*m.Intn(2) {
		l = append(l, m.complex(depth))
	}
	return l
}

func (m maker) complex(depth int) api.Complex {
	var c api.Complex
	for i := range 1 + m.Intn(2)*m.Intn(4) {
		part := api.Compound{}
		if i > 0 {
			part.Comb = api.CDown + m.Intn(4)
		}
		if m.Intn(2) == 0 {
			part.Simples = append(part.Simples, m.front())
		}
		for len(part.Simples) == 0 || m.Intn(4) == 0 {
			part.Simples = append(part.Simples, m.simple(depth))
		}
		c.Parts = append(c.Parts, part)
	}
	return c
}

func (m maker) front() api.Simple {
	if m.Intn(3) == 0 {
		return api.Simple{Kind: api.SAny}
	}
	return api.Simple{Kind: api.STag, Name: m.pick("a", "b", "c")}
}

func (m maker) simple(depth int) api.Simple {
	kind := api.SClass + m.Intn(api.SLastOf-api.SClass+1)
	s := api.Simple{Kind: kind}
	switch kind {
	case api.SClass:
		s.Name = m.pick("k", "l", "L")
	case api.SId:
		s.Name = m.pick("i", "j")
	case api.SAttr:
		s.Name, s.Op = m.pick("n", "m", "class"), m.Intn(7)
		if s.Op != api.OpHas {
			s.Value, s.Fold = m.pick("", "a", "A", "b", "a-b", " ", "k", "-"), m.Intn(2) == 0
		}
	case api.SNot, api.SIs, api.SWhere:
		if depth == 0 {
			return api.Simple{Kind: api.SEmpty}
		}
		s.List = m.list(depth - 1)
	case api.SNth, api.SLastOf:
		s.A, s.B = m.Intn(7)-3, m.Intn(9)-4
	}
	return s
}

// P10.1, P10.2, P10.4 and P10.6: all calls against the second reading.
func TestAgainstPlain(t *testing.T) {
	m := maker{rand.New(rand.NewSource(10))}
	met := 0
	for range 3000 {
		x := m.tree(18)
		p := newPlain(x)
		l := m.list(3)
		if !sel.May(l) {
			t.Fatalf("%+v", l)
		}
		var want []int
		for _, id := range x.Order() {
			weight, ok := api.Weight{}, false
			for _, c := range l {
				meets := p.meets(id, c.Parts)
				if Meets(x, id, c) != meets {
					text, _ := sel.Text([]api.Complex{c})
					t.Fatalf("%s, %d of %+v: not %v", text, id, x.Elems(), meets)
				}
				if meets {
					w, _ := sel.Weigh(c)
					weight, ok = sel.Most(weight, w), true
				}
			}
			if w, met := Any(x, id, l); w != weight || met != ok {
				t.Fatal(id, w, met, weight, ok)
			}
			if ok {
				want = append(want, id)
			}
		}
		met += len(want)
		if got := All(x, l); !slices.Equal(got, want) {
			t.Fatal(got, want)
		}
	}
	if met < 3000 {
		t.Error("too few are met to tell anything:", met)
	}
}

// has: is the key one of the element's?
func (p plain) has(id, kind int, name string) bool {
	return kind == 0 || p.meetsSimple(id, api.Simple{Kind: kind, Name: name})
}

// P10.3, P10.5, P10.6: who meets a selector has its key; Hits tells what Any tells, and looks at those whose key the element has.
func TestTableAgainstAny(t *testing.T) {
	m := maker{rand.New(rand.NewSource(11))}
	for range 400 {
		x := m.tree(18)
		p := newPlain(x)
		var lists [][]api.Complex
		for range m.Intn(9) {
			l := m.list(2)
			if m.Intn(9) == 0 {
				l = append(l, wrong()[m.Intn(len(wrong()))])
			}
			if m.Intn(9) == 0 {
				l = nil
			}
			lists = append(lists, l)
		}
		table := New(lists)
		var asked int64
		for _, id := range x.Order() {
			var want []Hit
			for i, l := range lists {
				if w, ok := Any(x, id, l); ok {
					want = append(want, Hit{List: i, Weight: w})
				}
				for _, c := range l {
					kind, name := Key(c)
					if sel.May([]api.Complex{c}) && p.has(id, kind, name) {
						asked++
					} else if Meets(x, id, c) {
						t.Fatalf("%d meets %+v without its key %d %s", id, c, kind, name)
					}
				}
			}
			if got := table.Hits(x, id); !slices.Equal(got, want) {
				t.Fatal(got, want)
			}
			if table.Asked() != asked {
				t.Fatal(table.Asked(), asked)
			}
		}
	}
}

// holds: is there such a simple selector in it, however deep?
func holds(c api.Complex, kinds ...int) bool {
	for _, part := range c.Parts {
		for _, s := range part.Simples {
			if slices.Contains(kinds, s.Kind) || slices.ContainsFunc(s.List, func(o api.Complex) bool { return holds(o, kinds...) }) {
				return true
			}
		}
	}
	return false
}

// P10.6: what stands below an element, and behind it and the ones above it, counts for nothing, but with :empty, :last-child, :only-child, :nth-last-child.
func TestHangsOnAboveAndAhead(t *testing.T) {
	m := maker{rand.New(rand.NewSource(12))}
	for range 1500 {
		x := m.tree(18)
		c := m.complex(3)
		if holds(c, api.SEmpty, api.SLast, api.SOnly, api.SLastOf) {
			continue
		}
		id := x.Order()[m.Intn(x.Len())]
		meets := Meets(x, id, c)
		cut := x.Copy()
		e, _ := cut.Elem(id)
		for _, kid := range e.Kids {
			cut.Remove(kid)
		}
		for ; e.Parent != -1; e, _ = cut.Elem(e.Parent) {
			parent, _ := cut.Elem(e.Parent)
			for _, kid := range parent.Kids[slices.Index(parent.Kids, e.Id)+1:] {
				cut.Remove(kid)
			}
		}
		if Meets(cut, id, c) != meets {
			text, _ := sel.Text([]api.Complex{c})
			t.Fatalf("%s: %d of %+v", text, id, x.Elems())
		}
	}
}

// P10.7: :not(l) is met just where :is(l) is not; a list's elements are those of its selectors together.
func TestNotAndTogether(t *testing.T) {
	m := maker{rand.New(rand.NewSource(13))}
	single := func(kind int, l []api.Complex) []api.Complex {
		return []api.Complex{{Parts: []api.Compound{{Simples: []api.Simple{{Kind: kind, List: l}}}}}}
	}
	for range 1000 {
		x := m.tree(18)
		l := m.list(2)
		is, where, not := All(x, single(api.SIs, l)), All(x, single(api.SWhere, l)), All(x, single(api.SNot, l))
		var together []int
		for _, c := range l {
			together = append(together, All(x, []api.Complex{c})...)
		}
		for _, id := range x.Order() {
			met := slices.Contains(is, id)
			if met == slices.Contains(not, id) || met != slices.Contains(where, id) || met != slices.Contains(together, id) {
				t.Fatal(id, is, where, not, together)
			}
		}
		if !slices.Equal(is, All(x, l)) {
			t.Fatal(is, All(x, l))
		}
	}
}

// T6: what is met hangs on the tree, not on its elements' numbers.
func TestNumbersDoNotCount(t *testing.T) {
	m := maker{rand.New(rand.NewSource(14))}
	for range 300 {
		x := m.tree(18)
		elems := x.Elems()
		other := func(id int) int { return 7 + 3*id }
		for i := range elems {
			elems[i].Id = other(elems[i].Id)
			if elems[i].Parent != -1 {
				elems[i].Parent = other(elems[i].Parent)
			}
			for j := range elems[i].Kids {
				elems[i].Kids[j] = other(elems[i].Kids[j])
			}
		}
		y, e := dom.Load(elems)
		if e != api.OK {
			t.Fatal(e)
		}
		l := m.list(3)
		want := All(x, l)
		for i := range want {
			want[i] = other(want[i])
		}
		if got := All(y, l); !slices.Equal(got, want) {
			t.Fatal(got, want)
		}
	}
}
