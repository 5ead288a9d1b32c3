package dom

import (
	"reflect"
	"testing"
	"unsafe"

	"jalousie/api"
)

// spoil changes all that an answer has, its spare room too.
func spoil(l []api.Elem) {
	for i := range l[:cap(l)] {
		e := &l[:cap(l)][i]
		for j := range e.Kids[:cap(e.Kids)] {
			e.Kids[:cap(e.Kids)][j] = 99
		}
		for j := range e.Attrs[:cap(e.Attrs)] {
			e.Attrs[:cap(e.Attrs)][j] = api.Attr{Name: "spoiled", Value: "spoiled"}
		}
		*e = api.Elem{Id: 99, Parent: 99, Tag: "spoiled"}
	}
}

func spoilInts(l []int) {
	for i := range l[:cap(l)] {
		l[:cap(l)][i] = 99
	}
}

// R2: what is handed out is the caller's own.
func TestHandedOutIsNew(t *testing.T) {
	x := sample(t)
	mustInsert(t, x, 0, 0, "k") // with spare room in lists, and behind a Remove
	wantErr(t, "Remove", x.Remove(8), api.OK)
	before := see(x)
	spoil(x.Elems())
	for _, id := range x.Order() {
		e, _ := x.Elem(id)
		spoil([]api.Elem{e})
		spoilInts(x.Below(id))
		classes := x.Classes(id)
		for i := range classes[:cap(classes)] {
			classes[:cap(classes)][i] = "spoiled"
		}
	}
	spoilInts(x.Order())
	wantSame(t, "behind the caller's changes", see(x), before)
	mustInsert(t, x, 0, 0, "k")
	wantErr(t, "Set", x.Set(0, "aaa", "v"), api.OK)
	if e, _ := x.Elem(0); len(e.Kids) != 4 || e.Kids[0] != 9 || len(e.Attrs) != 3 {
		t.Errorf("what grew behind them: %+v", e)
	}
}

// R2: an answer does not change, when the tree does.
func TestHandedOutStays(t *testing.T) {
	x := sample(t)
	elems, order, below := x.Elems(), x.Order(), x.Below(1)
	root, _ := x.Elem(0)
	again, orderAgain, belowAgain := x.Elems(), x.Order(), x.Below(1)
	editAll(t, x)
	if !reflect.DeepEqual(elems, again) || !reflect.DeepEqual(order, orderAgain) || !reflect.DeepEqual(below, belowAgain) || !reflect.DeepEqual(root, again[0]) {
		t.Error("an answer changed:", elems, order, below, root)
	}
}

// roomy is l with spare room behind each list that is full of other things.
func roomy(l []api.Elem) []api.Elem {
	out := append(make([]api.Elem, 0, len(l)+3), l...)
	for i, e := range out {
		kids := append(make([]int, 0, len(e.Kids)+3), e.Kids...)
		attrs := append(make([]api.Attr, 0, len(e.Attrs)+3), e.Attrs...)
		spoilInts(kids[len(kids):])
		for j := len(attrs); j < cap(attrs); j++ {
			attrs[:cap(attrs)][j] = api.Attr{Name: "behind", Value: "behind"}
		}
		out[i].Kids, out[i].Attrs = kids, attrs
	}
	for i := len(out); i < cap(out); i++ {
		out[:cap(out)][i] = api.Elem{Id: 99, Tag: "behind", Kids: []int{99}}
	}
	return out
}

// whole room of l: its lists up to their capacities.
func wholeRoom(l []api.Elem) []api.Elem {
	var out []api.Elem
	for _, e := range l[:cap(l)] {
		e.Kids = append([]int(nil), e.Kids[:cap(e.Kids)]...)
		e.Attrs = append([]api.Attr(nil), e.Attrs[:cap(e.Attrs)]...)
		out = append(out, e)
	}
	return out
}

// R2: what is handed in is neither changed nor kept, and what lies behind its length is neither read nor written.
func TestHandedInIsLetAlone(t *testing.T) {
	elems := sample(t).Elems()
	l := roomy(elems)
	before := wholeRoom(l)
	x := mustLoad(t, l)
	seenFirst := see(x)
	if !reflect.DeepEqual(x.Elems(), elems) {
		t.Errorf("what lies behind is read: %v", x.Elems())
	}
	editAll(t, mustLoad(t, l))
	if !reflect.DeepEqual(wholeRoom(l), before) {
		t.Errorf("what is handed in changed: %v", l)
	}
	spoil(l)
	wantSame(t, "behind the caller's changes", see(x), seenFirst)
}

// R2: kids and attributes of many elements that share one memory.
func TestHandedInShared(t *testing.T) {
	kids := []int{1, 2, 3, 4}
	attrs := []api.Attr{{Name: "a", Value: "1"}, {Name: "b", Value: "2"}}
	l := []api.Elem{el(0, -1), el(1, 0), el(2, 0), el(3, 1), el(4, 1)}
	l[0].Kids, l[1].Kids = kids[:2], kids[2:]
	for i := range l {
		l[i].Attrs = attrs
	}
	x := mustLoad(t, l)
	mustInsert(t, x, 0, 2, "k")
	wantErr(t, "Set", x.Set(1, "a", "other"), api.OK)
	wantErr(t, "Unset", x.Unset(2, "a"), api.OK)
	wantIds(t, "Order", x.Order(), 0, 1, 3, 4, 2, 5)
	if v, _ := x.Attr(0, "a"); v != "1" || attrs[0].Value != "1" || attrs[0].Name != "a" || kids[2] != 3 {
		t.Error("a list is shared:", v, attrs, kids)
	}
}

// R2: no two lists of one answer share memory.
func TestListsOfOneAnswer(t *testing.T) {
	l := sample(t).Elems()
	want := sample(t).Elems()
	for i := range l {
		spoil(l[i : i+1 : i+1])
		if !reflect.DeepEqual(l[i+1:], want[i+1:]) {
			t.Fatal("spoiling", i, "changed another one:", l[i+1:])
		}
	}
}

// R2: nil and empty lists are one, on the way in and on the way out.
func TestNilAndEmpty(t *testing.T) {
	a, b := el(0, -1), el(0, -1)
	a.Kids, a.Attrs = nil, nil
	b.Kids, b.Attrs = []int{}, []api.Attr{}
	x, y := mustLoad(t, []api.Elem{a}), mustLoad(t, []api.Elem{b})
	mustInsert(t, x, 0, 0, "k")
	wantErr(t, "Remove", x.Remove(1), api.OK)
	wantErr(t, "Set", x.Set(0, "n", "v"), api.OK)
	wantErr(t, "Unset", x.Unset(0, "n"), api.OK)
	wantSame(t, "empty ones", see(x), see(y))
}

// aliased is a text over bytes that may be changed.
func aliased(b []byte) string { return unsafe.String(&b[0], len(b)) }

// R2: a text that is handed in is not kept either.
func TestTextsAreNotKept(t *testing.T) {
	b := []byte("abcdef")
	s := aliased(b)
	x := mustNew(t, s)
	mustInsert(t, x, 0, 0, s)
	box := api.Box{Type: 1, Name: s, W: whole(1), H: whole(1)}
	wantErr(t, "Set", x.Set(0, s, s), api.OK)
	wantErr(t, "Set", x.Set(0, "other", "v"), api.OK)
	wantErr(t, "Set", x.Set(0, "other", s), api.OK)
	wantErr(t, "SetBox", x.SetBox(1, box), api.OK)
	y := mustLoad(t, []api.Elem{{Id: 0, Parent: -1, Tag: s, Attrs: []api.Attr{{Name: s, Value: s}}, Box: box}})
	copy(b, "ZZZZZZ")
	for _, z := range []*Tree{x, y} {
		e, _ := z.Elem(0)
		if v, ok := z.Attr(0, "abcdef"); e.Tag != "abcdef" || v != "abcdef" || !ok {
			t.Errorf("a text was kept: %+v", e)
		}
	}
	k, _ := x.Elem(1)
	r, _ := y.Elem(0)
	if v, _ := x.Attr(0, "other"); v != "abcdef" || k.Tag != "abcdef" || k.Box.Name != "abcdef" || r.Box.Name != "abcdef" {
		t.Errorf("a text was kept: %q %+v", v, k)
	}
}
