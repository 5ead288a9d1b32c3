package dom

import (
	"math"
	"reflect"
	"slices"
	"strconv"
	"strings"
	"testing"

	"jalousie/api"
)

// P8.2: any numbers, kids in the order of Kids, the next number one more than the greatest.
func TestLoad(t *testing.T) {
	l := []api.Elem{el(3, 7), el(7, -1, 20, 3, 9), el(9, 7, 11, 10), el(10, 9), el(11, 9), el(20, 7)}
	l[2].Tag, l[2].Box = "long-Tag_1", api.Box{Type: 2, Name: "n", W: whole(1), H: api.Rat{Num: 1, Den: 3}}
	l[2].Attrs = []api.Attr{{Name: "A", Value: "\xff"}, {Name: "_"}, {Name: "a", Value: strings.Repeat("v", 256)}, {Name: "a-"}, {Name: "b", Value: "x y"}}
	x := mustLoad(t, l)
	if x.Root() != 7 || x.Len() != 6 || x.Next() != 21 {
		t.Error(x.Root(), x.Len(), x.Next())
	}
	wantIds(t, "Order", x.Order(), 7, 20, 3, 9, 11, 10)
	wantIds(t, "Below", x.Below(9), 9, 11, 10)
	if !reflect.DeepEqual(x.Elems(), l) {
		t.Errorf("Elems: %v", x.Elems())
	}
	for _, want := range l {
		if e, ok := x.Elem(want.Id); !ok || !reflect.DeepEqual(e, want) {
			t.Errorf("Elem(%d): %v %v", want.Id, e, ok)
		}
	}
	if id := mustInsert(t, x, 9, 1, "k"); id != 21 {
		t.Error("Insert:", id)
	}
	wantIds(t, "Below", x.Below(9), 9, 11, 21, 10)
}

// P8.2: one element; the least and the greatest number.
func TestLoadOne(t *testing.T) {
	for _, id := range []int{0, 1, 1 << 30} {
		x := mustLoad(t, []api.Elem{el(id, -1)})
		if x.Root() != id || x.Len() != 1 || x.Next() != id+1 || !slices.Equal(x.Order(), []int{id}) {
			t.Error(id, x.Root(), x.Len(), x.Next(), x.Order())
		}
	}
	for _, id := range []int{-1, 1<<30 + 1, math.MinInt, math.MaxInt} {
		_, e := Load([]api.Elem{el(id, -1)})
		wantErr(t, "Load of the number "+strconv.Itoa(id), e, api.ErrIndex)
	}
}

// star is a root with n - 1 kids.
func star(n int) []api.Elem {
	l := []api.Elem{el(0, -1)}
	for i := 1; i < n; i++ {
		l = append(l, el(i, 0))
		l[0].Kids = append(l[0].Kids, i)
	}
	return l
}

func attrs(n int) (l []api.Attr) {
	for i := range n {
		l = append(l, api.Attr{Name: "n" + strconv.Itoa(100+i)})
	}
	return l
}

// P8.2: what may be at most, and one more.
func TestLoadLimits(t *testing.T) {
	if x := mustLoad(t, star(256)); x.Len() != 256 || x.Next() != 256 {
		t.Error(x.Len(), x.Next())
	}
	l := []api.Elem{el(0, -1)}
	l[0].Attrs = attrs(16)
	l[0].Attrs[15].Value = strings.Repeat("v", 256)
	mustLoad(t, l)
	if x := mustLoad(t, chain(32)); len(x.Below(31)) != 1 {
		t.Error(x.Order())
	}
	side := chain(32)
	side = append(side, el(32, 30))
	side[30].Kids = []int{32, 31}
	mustLoad(t, side)
	side = append(chain(33), el(33, 0))
	side[0].Kids = []int{1, 33}
	_, e := Load(side)
	wantErr(t, "a deep one ahead of one that is not", e, api.ErrDeep)
	for _, n := range []int{33, 34, 256} {
		x, e := Load(chain(n))
		if x != nil || e != api.ErrDeep {
			t.Error("a chain of", n, x, e)
		}
	}
}

// A fault is one wrong thing in a list of elements, and which error it has.
type fault struct {
	what string
	at   [3]int // which comes first: the phase, the element, the step at it
	e    api.Errno
	make func(l []api.Elem)
}

// elemFaults are the faults of the element i alone.
func elemFaults(i int) []fault {
	at := func(step int) [3]int { return [3]int{1, i, step} }
	return []fault{
		{"below 0", at(0), api.ErrIndex, func(l []api.Elem) { l[i].Id = -1 - i }},
		{"above MaxId", at(0), api.ErrIndex, func(l []api.Elem) { l[i].Id = 1<<30 + 1 + i }},
		{"no tag", at(1), api.ErrName, func(l []api.Elem) { l[i].Tag = "1" }},
		{"no tag at all", at(1), api.ErrName, func(l []api.Elem) { l[i].Tag = "" }},
		{"many attributes", at(2), api.ErrFull, func(l []api.Elem) { l[i].Attrs = append(l[i].Attrs, attrs(14)...) }},
		{"no name", at(3), api.ErrName, func(l []api.Elem) { l[i].Attrs[0].Name = "-" }},
		{"a long value", at(4), api.ErrLong, func(l []api.Elem) { l[i].Attrs[0].Value = strings.Repeat("v", 257) }},
		{"a name twice", at(5), api.ErrName, func(l []api.Elem) { l[i].Attrs[1].Name = l[i].Attrs[0].Name }},
		{"names not rising", at(5), api.ErrName, func(l []api.Elem) { l[i].Attrs[1].Name = "a" }},
		{"a later name", at(7), api.ErrName, func(l []api.Elem) { l[i].Attrs[2].Name = "z z" }},
		{"a later long value", at(8), api.ErrLong, func(l []api.Elem) { l[i].Attrs[2].Value = strings.Repeat("v", 1000) }},
		{"a box", at(9), api.ErrSize, func(l []api.Elem) { l[i].Box.Type = 3 }},
		{"a box's side", at(9), api.ErrSize, func(l []api.Elem) { l[i].Box.H = whole(-1) }},
	}
}

// allFaults are those of some elements of faultless, and of how they hang together.
func allFaults() []fault {
	all := slices.Concat(elemFaults(0), elemFaults(1), elemFaults(39))
	node := func(what string, f func(l []api.Elem)) {
		all = append(all, fault{what, [3]int{2}, api.ErrNode, f})
	}
	all = append(all,
		fault{"a number twice", [3]int{1, 20, 0}, api.ErrIndex, func(l []api.Elem) { l[20].Id = l[19].Id }},
		fault{"a number not rising", [3]int{1, 20, 0}, api.ErrIndex, func(l []api.Elem) { l[20].Id = l[18].Id }})
	node("no root", func(l []api.Elem) { l[2].Parent = l[5].Id })
	node("two roots", func(l []api.Elem) { l[5].Parent = -1 })
	node("a parent that is not there", func(l []api.Elem) { l[6].Parent = 1 })
	node("a parent below -1", func(l []api.Elem) { l[6].Parent = -2 })
	node("a kid that is another's", func(l []api.Elem) { l[7].Kids = append(l[7].Kids, l[9].Id) })
	node("a kid that is not there", func(l []api.Elem) { l[7].Kids = append(l[7].Kids, 1) })
	node("a kid twice", func(l []api.Elem) { l[2].Kids = append(l[2].Kids, l[2].Kids[0]) })
	node("a kid left out", func(l []api.Elem) { l[2].Kids = l[2].Kids[1:] })
	node("the root as a kid", func(l []api.Elem) { l[7].Kids = append(l[7].Kids, l[2].Id) })
	all = append(all, fault{"deep", [3]int{3}, api.ErrDeep, func(l []api.Elem) {
		for i := 10; i < 42; i++ { // each below the one ahead of it
			l[2].Kids = slices.DeleteFunc(l[2].Kids, func(k int) bool { return k == l[i].Id })
			l[i].Parent = l[i-1].Id
			l[i-1].Kids = append(l[i-1].Kids, l[i].Id)
		}
	}})
	return all
}

// faultless is a tree of 42 elements: the third is the root, all others are its kids; each has three attributes.
func faultless() []api.Elem {
	var l []api.Elem
	for i := range 42 {
		e := el(10*i+5, 25)
		e.Attrs = []api.Attr{{Name: "m"}, {Name: "n", Value: "1"}, {Name: "o", Value: "2"}}
		l = append(l, e)
	}
	l[2].Parent = -1
	for i := range l {
		if i != 2 {
			l[2].Kids = append(l[2].Kids, l[i].Id)
		}
	}
	return l
}

// P8.2, R4: each fault alone has its error.
func TestLoadFaults(t *testing.T) {
	mustLoad(t, faultless())
	for _, f := range allFaults() {
		l := faultless()
		f.make(l)
		if x, e := Load(l); x != nil || e != f.e {
			t.Errorf("%s %v: %v %d, want %d", f.what, f.at, x, e, f.e)
		}
	}
	if x, e := Load(nil); x != nil || e != api.ErrArg {
		t.Error("nil:", x, e)
	}
	if x, e := Load([]api.Elem{}); x != nil || e != api.ErrArg {
		t.Error("empty:", x, e)
	}
	if x, e := Load(star(257)); x != nil || e != api.ErrFull {
		t.Error("one more than MaxNodes:", x, e)
	}
}

// P8.2, R4: of two faults the one that is met first has its error, however they stand in the list.
func TestLoadFirstFault(t *testing.T) {
	for _, f := range allFaults() {
		for _, g := range allFaults() {
			if slices.Compare(f.at[:], g.at[:]) >= 0 {
				continue
			}
			for _, order := range [][]fault{{f, g}, {g, f}} {
				l := faultless()
				for _, wrong := range order {
					wrong.make(l)
				}
				if x, e := Load(l); x != nil || e != f.e {
					t.Errorf("%s %v, %s %v: %v %d, want %d", f.what, f.at, g.what, g.at, x, e, f.e)
				}
			}
		}
	}
	l := star(257)
	l[0].Id, l[1].Tag = -1, ""
	_, e := Load(l)
	wantErr(t, "more than MaxNodes, and wrong", e, api.ErrFull)
}

// P8.2: rings apart from the root, of one, two and three; all elements in a ring.
func TestLoadRings(t *testing.T) {
	for _, l := range [][]api.Elem{
		{el(0, 0, 0)},
		{el(0, 1, 1), el(1, 0, 0)},
		{el(0, -1), el(1, 1, 1)},
		{el(0, -1), el(1, 2, 2), el(2, 1, 1)},
		{el(0, -1, 4), el(1, 3, 2), el(2, 1, 3), el(3, 2, 1), el(4, 0)},
		{el(0, -1), el(1, 2, 2, 3), el(2, 1, 1), el(3, 1)},
		{el(0, -1, 1), el(1, 0), el(2, 2, 2)},
	} {
		if x, e := Load(l); x != nil || e != api.ErrNode {
			t.Errorf("%v: %v %d", l, x, e)
		}
	}
}

// P8.2: a ring is told ahead of a depth.
func TestLoadRingAndDeep(t *testing.T) {
	l := append(chain(40), el(40, 41, 41), el(41, 40, 40))
	_, e := Load(l)
	wantErr(t, "a ring beside a deep one", e, api.ErrNode)
	_, e = Load(append(chain(40), el(40, -1)))
	wantErr(t, "two roots, one deep", e, api.ErrNode)
}

// Lists of kids as long as anybody likes end at the first kid that may not be.
func TestLoadLongKids(t *testing.T) {
	kids := make([]int, 1<<20)
	for i := range kids {
		kids[i] = 1
	}
	_, e := Load([]api.Elem{el(0, -1, kids...), el(1, 0)})
	wantErr(t, "one kid, many times", e, api.ErrNode)
	for i := range kids {
		kids[i] = i + 1
	}
	_, e = Load([]api.Elem{el(0, -1, kids...), el(1, 0)})
	wantErr(t, "many kids", e, api.ErrNode)
	long := []api.Elem{{Id: 0, Parent: -1, Tag: "a", Kids: kids, Attrs: make([]api.Attr, 1<<20), Box: blankBox()}}
	_, e = Load(long)
	wantErr(t, "many attributes", e, api.ErrFull)
	_, e = Load(make([]api.Elem, 1<<18))
	wantErr(t, "many elements", e, api.ErrFull)
}
