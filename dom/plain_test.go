package dom

import (
	"math/rand"
	"reflect"
	"slices"
	"sort"
	"strconv"
	"strings"
	"testing"

	"jalousie/api"
)

// A second reading of the chapter, against which the program is held: a tree is the list of its elements, and each question is asked of all of them.

type plain struct {
	list []api.Elem // in any order
	next int
}

func (p *plain) find(id int) int {
	return slices.IndexFunc(p.list, func(e api.Elem) bool { return e.Id == id })
}

func (p *plain) depth(id int) int {
	e := p.list[p.find(id)]
	if e.Parent == -1 {
		return 1
	}
	return p.depth(e.Parent) + 1
}

func (p *plain) below(id int) []int {
	l := []int{id}
	for _, kid := range p.list[p.find(id)].Kids {
		l = append(l, p.below(kid)...)
	}
	return l
}

func (p *plain) insert(parent, at int, tag string) (int, api.Errno) {
	i := p.find(parent)
	if i < 0 {
		return 0, 5
	}
	kids := p.list[i].Kids
	switch {
	case at < 0 || at > len(kids):
		return 0, 13
	case !plainName(tag):
		return 0, 10
	case len(p.list) == 256 || p.next > 1<<30:
		return 0, 6
	case p.depth(parent) == 32:
		return 0, 7
	}
	p.list[i].Kids = slices.Concat(kids[:at], []int{p.next}, kids[at:])
	p.list = append(p.list, api.Elem{Id: p.next, Parent: parent, Tag: tag, Box: blankBox()})
	p.next++
	return p.next - 1, 0
}

func (p *plain) remove(id int) api.Errno {
	i := p.find(id)
	if i < 0 {
		return 5
	}
	parent := p.list[i].Parent
	if parent == -1 {
		return 1
	}
	gone := p.below(id)
	var rest []api.Elem
	for _, e := range p.list {
		if slices.Contains(gone, e.Id) {
			continue
		}
		var kids []int
		for _, k := range e.Kids {
			if k != id {
				kids = append(kids, k)
			}
		}
		e.Kids = kids
		rest = append(rest, e)
	}
	p.list = rest
	return 0
}

func (p *plain) set(id int, name, value string) api.Errno {
	i := p.find(id)
	switch {
	case i < 0:
		return 5
	case !plainName(name):
		return 10
	case len(value) > 256:
		return 2
	}
	var rest []api.Attr
	for _, a := range p.list[i].Attrs {
		if a.Name != name {
			rest = append(rest, a)
		}
	}
	if len(rest) == 16 {
		return 6
	}
	rest = append(rest, api.Attr{Name: name, Value: value})
	sort.Slice(rest, func(a, b int) bool { return rest[a].Name < rest[b].Name })
	p.list[i].Attrs = rest
	return 0
}

func (p *plain) unset(id int, name string) api.Errno {
	i := p.find(id)
	if i < 0 {
		return 5
	}
	var rest []api.Attr
	for _, a := range p.list[i].Attrs {
		if a.Name != name {
			rest = append(rest, a)
		}
	}
	if len(rest) == len(p.list[i].Attrs) {
		return 10
	}
	p.list[i].Attrs = rest
	return 0
}

func (p *plain) setBox(id int, b api.Box) api.Errno {
	i := p.find(id)
	if i < 0 {
		return 5
	}
	if !plainBox(b) {
		return 8
	}
	p.list[i].Box = b
	return 0
}

func plainName(s string) bool {
	if len(s) < 1 || len(s) > 64 || strings.Contains("0123456789-", s[:1]) {
		return false
	}
	return strings.Trim(s, "abcdefghijklmnopqrstuvwxyzABCDEFGHIJKLMNOPQRSTUVWXYZ0123456789_-") == ""
}

func plainBox(b api.Box) bool {
	for _, r := range []api.Rat{b.W, b.H} {
		if r.Num < 0 || r.Den < 1 {
			return false
		}
		n, d := r.Num, r.Den
		for d != 0 {
			n, d = d, n%d
		}
		if n != 1 {
			return false
		}
	}
	return (b.Type == 0 || b.Type == 1 || b.Type == 2) && (b.Name == "" || plainName(b.Name))
}

func (p *plain) classes(e api.Elem) (l []string) {
	for _, a := range e.Attrs {
		if a.Name != "class" {
			continue
		}
		for _, piece := range strings.Split(strings.NewReplacer("\t", " ", "\n", " ").Replace(a.Value), " ") {
			if piece != "" && !slices.Contains(l, piece) {
				l = append(l, piece)
			}
		}
	}
	return l
}

// see tells what is seen of p, in the shape that see tells of a tree.
func (p *plain) see() seen {
	root := p.list[slices.IndexFunc(p.list, func(e api.Elem) bool { return e.Parent == -1 })].Id
	s := seen{Root: root, Len: len(p.list), Order: p.below(root), Elems: slices.Clone(p.list)}
	sort.Slice(s.Elems, func(a, b int) bool { return s.Elems[a].Id < s.Elems[b].Id })
	for _, id := range s.Order {
		e := p.list[p.find(id)]
		place := 0
		if id != root {
			place = slices.Index(p.list[p.find(e.Parent)].Kids, id)
		}
		values := p.classes(e)
		for _, a := range e.Attrs {
			values = append(values, a.Name, a.Value)
		}
		s.Below = append(s.Below, p.below(id))
		s.Places = append(s.Places, place)
		s.Values = append(s.Values, values)
	}
	return s
}

// dice makes operations, wrong ones among them.
type dice struct{ *rand.Rand }

func pick[T any](d dice, l ...T) T { return l[d.Intn(len(l))] }

func (d dice) id(p *plain) int {
	if d.Intn(8) == 0 {
		return d.Intn(p.next+3) - 1
	}
	return p.list[d.Intn(len(p.list))].Id
}

func (d dice) name() string {
	return pick(d, "class", "id", "a", "b", "A", "_x", "a-b", "n"+strconv.Itoa(d.Intn(30)), "n"+strconv.Itoa(d.Intn(30)), "n"+strconv.Itoa(d.Intn(30)), "", "1", "a b")
}

func (d dice) value() string {
	if d.Intn(20) == 0 {
		return strings.Repeat("v", 254+d.Intn(5))
	}
	var b []byte
	for range d.Intn(8) {
		b = append(b, pick[byte](d, 'a', 'b', ' ', '\t', '\n', '\r', 0xc3, 0xff))
	}
	return string(b)
}

func (d dice) box() api.Box {
	side := func() api.Rat { return api.Rat{Num: d.Int63n(5), Den: 1 + d.Int63n(3)} }
	return pick(d, api.Box{Type: d.Intn(4), Name: pick(d, "", "n", "1"), W: side(), H: side()}, api.Box{Type: d.Intn(3), W: whole(d.Int63n(9)), H: whole(d.Int63n(9) - 1)})
}

// step does one operation with both, and tells whether both answer the same.
func step(d dice, x *Tree, p *plain, grow int) bool {
	switch kind := d.Intn(10 + grow); {
	case kind >= 9:
		parent, at, tag := d.id(p), d.Intn(4)-d.Intn(2), pick(d, "a", "b", "k", "")
		id, e := x.Insert(parent, at, tag)
		wantId, want := p.insert(parent, at, tag)
		return id == wantId && e == want
	case kind == 0:
		id := d.id(p)
		return x.Remove(id) == p.remove(id)
	case kind < 5:
		id, name, value := d.id(p), d.name(), d.value()
		return x.Set(id, name, value) == p.set(id, name, value)
	case kind < 7:
		id, name := d.id(p), d.name()
		return x.Unset(id, name) == p.unset(id, name)
	}
	id, b := d.id(p), d.box()
	return x.SetBox(id, b) == p.setBox(id, b)
}

// P8.3 to P8.6: long scripts of operations against the second reading.
func TestPlainScripts(t *testing.T) {
	d := dice{rand.New(rand.NewSource(8))}
	for _, c := range []struct{ scripts, steps, grow int }{{200, 60, 2}, {10, 1500, 8}, {3, 1500, 40}} {
		for range c.scripts {
			x := mustNew(t, "r")
			p := &plain{list: []api.Elem{{Id: 0, Parent: -1, Tag: "r", Box: blankBox()}}, next: 1}
			for i := range c.steps {
				if !step(d, x, p, c.grow) || x.Next() != p.next || x.Len() != len(p.list) {
					t.Fatal("step", i, "answers otherwise")
				}
				if i%20 == 0 || i == c.steps-1 {
					wantSame(t, "a script", see(x), p.see())
				}
			}
			follows(t, x)
		}
	}
}

// follows holds P8.8 against a tree.
func follows(t *testing.T, x *Tree) {
	t.Helper()
	y := mustLoad(t, x.Elems())
	wantSame(t, "Load of Elems", see(y), see(x))
	if y.Next() > x.Next() {
		t.Error("the next number of what is loaded:", y.Next(), x.Next())
	}
	place := map[int]int{}
	order := x.Order()
	for i, id := range order {
		if _, twice := place[id]; twice {
			t.Error("twice in Order:", id)
		}
		place[id] = i
		e, _ := x.Elem(id)
		if parent, ahead := place[e.Parent]; e.Parent != -1 && (!ahead || parent >= i) {
			t.Error("ahead of its parent:", id)
		}
		below := x.Below(id)
		if i+len(below) > len(order) || !slices.Equal(order[i:i+len(below)], below) {
			t.Error("what is below does not stand side by side:", id)
		}
	}
	if len(order) != x.Len() {
		t.Error("Order has", len(order), "of", x.Len())
	}
}

// P8.9: Insert and Remove of what was inserted; Set twice; operations at unlike elements.
func TestFollows(t *testing.T) {
	d := dice{rand.New(rand.NewSource(9))}
	for range 300 {
		x := mustNew(t, "r")
		p := &plain{list: []api.Elem{{Id: 0, Parent: -1, Tag: "r", Box: blankBox()}}, next: 1}
		for range 40 {
			step(d, x, p, 5)
		}
		before, next := see(x), x.Next()
		parent := p.list[d.Intn(len(p.list))]
		if x.Len() < 256 && p.depth(parent.Id) < 32 {
			id := mustInsert(t, x, parent.Id, d.Intn(len(parent.Kids)+1), "new")
			wantErr(t, "Set", x.Set(id, "a", "b"), api.OK)
			wantErr(t, "Remove", x.Remove(id), api.OK)
			wantSame(t, "Insert and Remove", see(x), before)
			if x.Next() != next+1 {
				t.Error("the next number:", x.Next(), next)
			}
		}
		y := x.Copy()
		id, other := d.id(p), p.list[d.Intn(len(p.list))].Id
		name, one, two := d.name(), d.value(), d.value()
		if y.Set(id, name, one) == api.OK {
			y.Set(id, name, two)
			z := x.Copy()
			z.Set(id, name, two)
			if len(two) <= 256 {
				wantSame(t, "Set twice", see(y), see(z))
			}
		}
		if id != other {
			swapped(t, d, x, id, other)
		}
	}
}

// swapped does operations at two elements, in both orders.
func swapped(t *testing.T, d dice, x *Tree, id, other int) {
	t.Helper()
	make := func(id int) func(*Tree) api.Errno {
		name, value, box := d.name(), d.value(), d.box()
		return pick(d,
			func(x *Tree) api.Errno { return x.Set(id, name, value) },
			func(x *Tree) api.Errno { return x.Unset(id, name) },
			func(x *Tree) api.Errno { return x.SetBox(id, box) })
	}
	f, g := make(id), make(other)
	y, z := x.Copy(), x.Copy()
	f1, g1 := f(y), g(y)
	g2, f2 := g(z), f(z)
	if f1 != f2 || g1 != g2 {
		t.Error("errors hang on the order:", f1, f2, g1, g2)
	}
	wantSame(t, "changed places", see(y), see(z))
}

// plainLoad tells which error a list has that has no fault but of how its elements hang together.
func plainLoad(l []api.Elem) api.Errno {
	roots := 0
	for _, e := range l {
		if e.Parent == -1 {
			roots++
		}
		var kids []int
		for _, k := range l {
			if k.Parent == e.Id {
				kids = append(kids, k.Id)
			}
		}
		sorted := slices.Clone(e.Kids)
		slices.Sort(sorted)
		slices.Sort(kids)
		if !slices.Equal(sorted, kids) {
			return 5
		}
	}
	if roots != 1 {
		return 5
	}
	deepest := 0
	for _, e := range l {
		depth := 1
		for ; e.Parent != -1 && depth <= len(l); depth++ {
			i := slices.IndexFunc(l, func(p api.Elem) bool { return p.Id == e.Parent })
			if i < 0 {
				return 5
			}
			e = l[i]
		}
		if e.Parent != -1 {
			return 5
		}
		deepest = max(deepest, depth)
	}
	if deepest > 32 {
		return 7
	}
	return 0
}

// kidLists are the lists of up to n of the numbers in of.
func kidLists(n int, of ...int) [][]int {
	all := [][]int{nil}
	last := all
	for range n {
		var longer [][]int
		for _, l := range last {
			for _, k := range of {
				longer = append(longer, append(slices.Clone(l), k))
			}
		}
		all, last = append(all, longer...), longer
	}
	return all
}

// P8.2: all lists of two and three elements, with all parents and short lists of kids.
func TestPlainLoad(t *testing.T) {
	check := func(l []api.Elem) {
		x, e := Load(l)
		if want := plainLoad(l); e != want || (x != nil) != (e == api.OK) {
			t.Fatalf("Load(%v): %d, want %d", l, e, want)
		}
		if e == api.OK && !reflect.DeepEqual(x.Elems(), l) {
			t.Fatalf("Load(%v): %v", l, x.Elems())
		}
	}
	var two []api.Elem
	for _, parent := range []int{-2, -1, 0, 1, 2} {
		for _, kids := range kidLists(3, -1, 0, 1, 2) {
			two = append(two, el(0, parent, kids...))
		}
	}
	for _, a := range two {
		check([]api.Elem{a})
		for _, b := range two {
			b.Id = 1
			check([]api.Elem{a, b})
		}
	}
	var three []api.Elem
	for _, parent := range []int{-1, 0, 4, 9} {
		for _, kids := range kidLists(2, 0, 4, 9) {
			three = append(three, el(0, parent, kids...))
		}
	}
	for _, a := range three {
		for _, b := range three {
			for _, c := range three {
				b.Id, c.Id = 4, 9
				check([]api.Elem{a, b, c})
			}
		}
	}
}

// P8.2: random trees, and ones with a link changed.
func TestPlainLoadRandom(t *testing.T) {
	d := dice{rand.New(rand.NewSource(10))}
	for round := range 4000 {
		n := 1 + d.Intn(40)
		ids := d.Perm(100)[:n]
		slices.Sort(ids)
		hang := d.Perm(n)
		l := make([]api.Elem, n)
		for i, id := range ids {
			l[i] = el(id, -1)
		}
		for i := 1; i < n; i++ {
			kid, parent := &l[hang[i]], &l[hang[max(0, i-1-d.Intn(1+round%4))]]
			kid.Parent = parent.Id
			parent.Kids = slices.Insert(parent.Kids, d.Intn(len(parent.Kids)+1), kid.Id)
		}
		for range d.Intn(3) {
			e := &l[d.Intn(n)]
			switch d.Intn(4) {
			case 0:
				e.Parent = pick(d, -1, ids[d.Intn(n)], d.Intn(100))
			case 1:
				e.Kids = append(e.Kids, ids[d.Intn(n)])
			case 2:
				d.Shuffle(len(e.Kids), func(a, b int) { e.Kids[a], e.Kids[b] = e.Kids[b], e.Kids[a] })
			}
		}
		x, e := Load(l)
		if want := plainLoad(l); e != want {
			t.Fatalf("Load(%v): %d, want %d", l, e, want)
		}
		if e == api.OK {
			p := &plain{list: slices.Clone(l), next: ids[n-1] + 1}
			wantSame(t, "a random tree", see(x), p.see())
			if x.Next() != p.next {
				t.Error("the next number:", x.Next(), p.next)
			}
			follows(t, x)
		}
	}
}
