package match

import (
	"math/rand"
	"reflect"
	"slices"
	"strings"
	"sync"
	"testing"

	"jalousie/api"
	"jalousie/dom"
)

const busy = `a.b#c > [d="e" i]:not(f, .g h):nth-child(2n+1), :is(:where(i) ~ j, p), #q, html p`

// R2: what is handed in is neither changed nor read behind its length.
func TestArgumentsStay(t *testing.T) {
	x := sample(t)
	before := x.Elems()
	l := list(t, busy)
	lists := [][]api.Complex{l, list(t, "p"), l[:2]}
	// Behind the length stands what everybody meets.
	short := append(slices.Clone(l[:1]), list(t, "*")...)[:1]
	if _, ok := Any(x, 2, short); ok || len(All(x, short)) != 0 || len(New([][]api.Complex{short}).Hits(x, 2)) != 0 {
		t.Error("read behind the length")
	}
	for _, id := range []int{0, 3, 9} {
		Meets(x, id, l[0])
		Any(x, id, l)
		New(lists).Hits(x, id)
	}
	All(x, l)
	Key(l[0])
	if !reflect.DeepEqual(l, list(t, busy)) || len(lists[2]) != 2 || !reflect.DeepEqual(short[:2][1], list(t, "*")[0]) {
		t.Error("the selectors are others")
	}
	if !reflect.DeepEqual(x.Elems(), before) || x.Next() != 5 {
		t.Error("the tree is another")
	}
}

// spoil: other values at each place of a list and of those in it.
func spoil(l []api.Complex) {
	for i := range l {
		for j := range l[i].Parts {
			for k := range l[i].Parts[j].Simples {
				spoil(l[i].Parts[j].Simples[k].List)
				l[i].Parts[j].Simples[k] = api.Simple{Kind: api.SAny}
			}
			l[i].Parts[j].Comb = -1
		}
		l[i].Parts = nil
	}
}

// R2: a table keeps nothing that was handed in.
func TestTableIsItsOwn(t *testing.T) {
	x := sample(t)
	texts := []string{busy, "body > :is(p, :not(ul, .k)):not(#q)", "[lang|=en], p + p", "ul"}
	l := lists(t, texts...)
	table, want := New(l), New(lists(t, texts...))
	for i := range l {
		spoil(l[i])
		l[i] = nil
	}
	for _, id := range x.Order() {
		if got := table.Hits(x, id); !slices.Equal(got, want.Hits(x, id)) || table.Asked() != want.Asked() {
			t.Error(id, got)
		}
	}
}

// R2: what is told is the caller's own, spare room too.
func TestAnswersAreNew(t *testing.T) {
	x := sample(t)
	table := New(lists(t, "p, #q", "*", "p, :root, *"))
	hits := table.Hits(x, 3)
	want := slices.Clone(hits)
	for i := range hits[:cap(hits)] {
		hits[:cap(hits)][i] = Hit{List: -1}
	}
	if got := table.Hits(x, 3); !slices.Equal(got, want) {
		t.Error(got)
	}
	l := list(t, "*")
	ids := All(x, l)
	for i := range ids[:cap(ids)] {
		ids[:cap(ids)][i] = -1
	}
	if got := All(x, l); !slices.Equal(got, []int{0, 1, 2, 3, 4}) || !slices.Equal(x.Order(), got) {
		t.Error(got)
	}
}

// R2: nil and empty lists are one.
func TestNilAndEmpty(t *testing.T) {
	x := sample(t)
	empty := api.Complex{Parts: []api.Compound{{Simples: []api.Simple{{Kind: api.SAny, List: []api.Complex{}}}}}}
	if !Meets(x, 0, empty) || len(All(x, []api.Complex{})) != 0 || len(New([][]api.Complex{{}}).Hits(x, 0)) != 0 {
		t.Error("empty")
	}
	if Meets(x, 0, api.Complex{Parts: []api.Compound{}}) {
		t.Error("no compound")
	}
}

// tower: a tree as deep as may be, each element with as many ahead of it as there is room for.
func tower(t *testing.T, ahead int) (*dom.Tree, int) {
	t.Helper()
	x, _ := dom.New("a")
	at := 0
	for range api.MaxTree - 1 {
		for range ahead + 1 {
			e, _ := x.Elem(at)
			if _, err := x.Insert(at, len(e.Kids), "a"); err != api.OK {
				t.Fatal(err)
			}
		}
		e, _ := x.Elem(at)
		at = e.Kids[ahead]
	}
	return x, at
}

// R3: chains of compounds, however many ways lead through the tree.
func TestManyWays(t *testing.T) {
	x, at := tower(t, 7)
	for _, comb := range []string{" ", " > ", " + ", " ~ ", " a ~ "} {
		c := one(t, "b"+strings.Repeat(comb+"a", 6)+strings.Repeat(" a ~ a", 20))
		if Meets(x, at, c) {
			t.Error(comb)
		}
	}
	if !Meets(x, at, one(t, "a"+strings.Repeat(" a", api.MaxTree-1))) || Meets(x, at, one(t, "a"+strings.Repeat(" a", api.MaxTree))) {
		t.Error("as deep as the tree")
	}
	flat := grown(t, "a"+strings.Repeat(" .a", api.MaxNodes-1))
	long := "a" + strings.Repeat(" ~ a", api.MaxNodes-2)
	if got := All(flat, list(t, long)); !slices.Equal(got, []int{api.MaxNodes - 1}) || len(All(flat, list(t, long+" ~ a"))) != 0 {
		t.Error("as long as the tree")
	}
}

// R3: lists in one another, each with ways of its own, as deep as may be.
func TestDeepLists(t *testing.T) {
	x, at := tower(t, 7)
	for _, front := range []string{":is(", ":not(", ":where("} {
		text := "b"
		for range api.MaxNest {
			text = front + text + ") a ~ a a"
		}
		l := list(t, text)
		meets := Meets(x, at, l[0])
		if meets && front != ":not(" {
			t.Error(front, "nobody is b")
		}
		if slices.Contains(All(x, l), at) != meets || (len(New([][]api.Complex{l}).Hits(x, at)) == 1) != meets {
			t.Error(front, meets)
		}
	}
}

// holdsItself: a selector whose list holds it again, without an end.
func holdsItself() api.Complex {
	simples := []api.Simple{{Kind: api.SNot}}
	c := api.Complex{Parts: []api.Compound{{Simples: simples}}}
	simples[0].List = []api.Complex{c}
	return c
}

// R3, R7: raw data that nest without an end, and long ones.
func TestRawLength(t *testing.T) {
	x, at := tower(t, 7)
	c := holdsItself()
	if _, name := Key(c); name != "" || Meets(x, at, c) || len(All(x, []api.Complex{c})) != 0 || len(New([][]api.Complex{{c}}).Hits(x, at)) != 0 {
		t.Error("a selector in itself")
	}
	tag := []api.Simple{{Kind: api.STag, Name: "a"}}
	long := api.Complex{Parts: []api.Compound{{Simples: tag}}}
	for range 1 << 20 {
		long.Parts = append(long.Parts, api.Compound{Comb: api.CDown, Simples: tag})
	}
	if Meets(x, at, long) {
		t.Error("longer than the tree is deep")
	}
	wide := api.Complex{Parts: []api.Compound{{Simples: slices.Concat(tag, slices.Repeat([]api.Simple{{Kind: api.SNth, A: 1}}, 1<<16))}}}
	if !Meets(x, at, wide) || len(All(x, slices.Repeat([]api.Complex{{}}, 1<<16))) != 0 {
		t.Error("wide")
	}
}

// R6, T8: many may ask one table and one tree at one time.
func TestTogether(t *testing.T) {
	m := maker{rand.New(rand.NewSource(15))}
	x := m.tree(60)
	var lists [][]api.Complex
	for range 30 {
		lists = append(lists, m.list(2))
	}
	alone, crowd := New(lists), New(lists)
	want := map[int][]Hit{}
	for _, id := range x.Order() {
		want[id] = alone.Hits(x, id)
	}
	const many = 8
	var group sync.WaitGroup
	for range many {
		group.Go(func() {
			for id, hits := range want {
				if got := crowd.Hits(x, id); !slices.Equal(got, hits) {
					t.Error(id, got)
				}
			}
		})
	}
	group.Wait()
	if crowd.Asked() != many*alone.Asked() {
		t.Error(crowd.Asked(), alone.Asked())
	}
}
