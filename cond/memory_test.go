package cond

import (
	"reflect"
	"slices"
	"strings"
	"sync"
	"testing"

	"jalousie/api"
)

const busy = " (a) and ((b) or (not ((c d) and f(g [h])))) and (not (e)) "

// spoilValues: other values at each place of the lists in l, and in their spare room.
func spoilValues(l []api.Value) {
	for _, v := range l {
		spoilValues(v.Kids)
	}
	room := l[:cap(l)]
	for i := range room {
		room[i] = api.Value{Tok: api.Token{Kind: -1}}
	}
}

func spoilExpr(e api.Expr) {
	for _, kid := range e.Kids {
		spoilExpr(kid)
	}
	room := e.Kids[:cap(e.Kids)]
	for i := range room {
		room[i] = api.Expr{Kind: -1}
	}
}

// spoil: other values at each place of the lists of c, and in their spare room.
func spoil(c api.Cond) {
	spoilExpr(c.Leaf.Expr)
	for _, kid := range c.Kids {
		spoil(kid)
	}
	room := c.Kids[:cap(c.Kids)]
	for i := range room {
		room[i] = api.Cond{Kind: -1}
	}
}

// large: a condition with lists of each kind, each time anew.
func large() api.Cond {
	cmp := func() api.Cond {
		return leafOf(api.Leaf{Kind: api.LCmp, Name: "t", Op: api.OpLe, Expr: sum(num(1), sum(num(2), num(3)), num(4))})
	}
	return and(cmp(), or(named("u"), not(cmp()), and(cmp())), fixed(2), unknown())
}

// R2: what is handed in is not changed, by the calls.
func TestArgumentsStay(t *testing.T) {
	l := values(busy)
	Parse(l, leaf)
	Parse(l, nil)
	if !reflect.DeepEqual(l, values(busy)) {
		t.Errorf("%+v", l)
	}
	c := large()
	May(c)
	Leaves(c)
	Eval(c, ask)
	Eval(c, nil)
	Same(c, c)
	if !reflect.DeepEqual(c, large()) {
		t.Errorf("%+v", c)
	}
	truths := []int{2, 7, 0, -1}
	And(truths...)
	Or(truths...)
	if !slices.Equal(truths, []int{2, 7, 0, -1}) {
		t.Error(truths)
	}
}

// R2: what a leaf does with a part reaches neither what was handed in nor what is still to be read.
func TestLeafSpoils(t *testing.T) {
	l := values(busy)
	want, _ := Parse(values(busy), leaf)
	c, e := Parse(l, func(v api.Value) (api.Cond, bool) {
		c, ok := leaf(v)
		spoilValues(v.Kids)
		return c, ok
	})
	if e != api.OK || !reflect.DeepEqual(c, want) || !reflect.DeepEqual(l, values(busy)) {
		t.Errorf("%+v %d, of %+v", c, e, l)
	}
	// A leaf that makes a part hold itself.
	c, e = Parse(l, func(v api.Value) (api.Cond, bool) {
		c, ok := leaf(v)
		for i := range v.Kids {
			v.Kids[i] = v
		}
		return c, ok
	})
	if e != api.OK || !reflect.DeepEqual(c, want) || !reflect.DeepEqual(l, values(busy)) {
		t.Errorf("%+v %d, of %+v", c, e, l)
	}
	// A leaf that reaches the list by ways of its own.
	c, e = Parse(l, func(v api.Value) (api.Cond, bool) {
		spoilValues(l)
		return leaf(v)
	})
	if e != api.OK || !reflect.DeepEqual(c, want) {
		t.Errorf("%+v %d", c, e)
	}
}

// R2: what f does with a leaf reaches neither what was handed in nor what is still to be asked.
func TestAskedSpoils(t *testing.T) {
	c := large()
	f := func(l api.Leaf) int {
		spoilExpr(l.Expr)
		return ask(l)
	}
	if x := Eval(c, f); x != Eval(large(), ask) || !reflect.DeepEqual(c, large()) {
		t.Errorf("%d, of %+v", x, c)
	}
	names := ""
	x := Eval(c, func(l api.Leaf) int {
		names += l.Name
		spoil(c)
		return ask(l)
	})
	if x != Eval(large(), ask) || names != "tutt" {
		t.Error(x, names)
	}
	c = and(named("t"), named("t"))
	if x := Eval(c, func(l api.Leaf) int { c.Kids[1] = c; return ask(l) }); x != api.TTrue {
		t.Error(x)
	}
}

// condLists: where each list of c begins, and its room's end.
func condLists(c api.Cond) [][2]uintptr {
	l := append(place(c.Kids), exprLists(c.Leaf.Expr)...)
	for _, kid := range c.Kids {
		l = append(l, condLists(kid)...)
	}
	return l
}

func exprLists(e api.Expr) [][2]uintptr {
	l := place(e.Kids)
	for _, kid := range e.Kids {
		l = append(l, exprLists(kid)...)
	}
	return l
}

func place[T any](l []T) [][2]uintptr {
	if cap(l) == 0 {
		return nil
	}
	r := reflect.ValueOf(l)
	return [][2]uintptr{{r.Pointer(), r.Pointer() + uintptr(r.Cap())*r.Type().Elem().Size()}}
}

// areApart: no two lists share memory, spare room too.
func areApart(t *testing.T, what any, lists ...[][2]uintptr) {
	t.Helper()
	l := slices.Concat(lists...)
	for i, a := range l {
		for _, b := range l[i+1:] {
			if a[0] < b[1] && b[0] < a[1] {
				t.Fatalf("%v: %x %x", what, a, b)
			}
		}
	}
}

// R2: what is told is new memory, whatever leaf tells; no two lists of one answer share memory.
func TestToldIsNew(t *testing.T) {
	kept := large()
	again := func(api.Value) (api.Cond, bool) { return kept, true }
	for s, want := range map[string]api.Cond{"f()": large(), "(a) and (b) and (c)": and(large(), large(), large()), "not f()": not(large())} {
		first, _ := Parse(values(s), again)
		second, _ := Parse(values(s), again)
		areApart(t, s, condLists(first), condLists(second), condLists(kept))
		spoil(first)
		if !reflect.DeepEqual(second, want) || !reflect.DeepEqual(kept, large()) {
			t.Errorf("%q: %+v", s, second)
		}
		third, _ := Parse(values(s), again)
		spoil(kept)
		if !reflect.DeepEqual(third, want) {
			t.Errorf("%q: %+v", s, third)
		}
		kept = large()
	}
	c, _ := Parse(values(busy), leaf)
	areApart(t, busy, condLists(c))
}

// R2: leaves that are told are new memory.
func TestLeavesAreNew(t *testing.T) {
	c := large()
	first, second := Leaves(c), Leaves(c)
	lists := condLists(c)
	for _, l := range [][]api.Leaf{first, second} {
		lists = append(lists, place(l)...)
		for _, x := range l {
			lists = append(lists, exprLists(x.Expr)...)
		}
	}
	areApart(t, "leaves", lists)
	for _, l := range first {
		spoilExpr(l.Expr)
	}
	room := first[:cap(first)]
	for i := range room {
		room[i] = api.Leaf{Kind: -1}
	}
	if !reflect.DeepEqual(c, large()) || !reflect.DeepEqual(second, Leaves(large())) {
		t.Errorf("%+v, %+v", c, second)
	}
	spoil(c)
	if !reflect.DeepEqual(second, Leaves(large())) {
		t.Errorf("%+v", second)
	}
	// One list in two places.
	e := sum(num(1))
	shared := leafOf(api.Leaf{Kind: api.LCmp, Name: "a", Op: 1, Expr: e})
	l := Leaves(or(shared, shared))
	areApart(t, "shared", exprLists(l[0].Expr), exprLists(l[1].Expr), exprLists(e))
}

// R2: what lies behind a list's length is neither read nor written.
func TestBehindTheLength(t *testing.T) {
	l := append(values("(a) and (b)"), values(" or (c)")...)
	whole := slices.Clone(l)
	if c, e := Parse(l[:5], leaf); e != api.OK || !reflect.DeepEqual(c, and(named("a"), named("b"))) {
		t.Error(c, e)
	}
	refused(t, "one less", l[:4], api.ErrSyntax)
	kids := append(values("a"), values(" b")...)
	if c, e := Parse([]api.Value{{Tok: api.Token{Kind: api.TOpenParen}, Kids: kids[:1]}}, leaf); e != api.OK || !reflect.DeepEqual(c, named("a")) {
		t.Error(c, e)
	}
	conds := []api.Cond{named("t"), named("u"), {Kind: 9}, named("f")}
	short := and(conds[:2]...)
	if !May(short) || Eval(short, ask) != api.TUnknown || len(Leaves(short)) != 2 || !Same(short, and(named("t"), named("u"))) {
		t.Error(short)
	}
	args := []api.Expr{num(1), {}}
	if c := leafOf(api.Leaf{Kind: api.LCmp, Name: "a", Op: 1, Expr: sum(args[:1]...)}); !May(c) || !Same(c, leafOf(Leaves(c)[0])) {
		t.Error(c)
	}
	zero := not(named("t"))
	zero.Leaf.Expr.Kids = args[:0]
	truths := []int{2, 2, 0}
	if !May(zero) || And(truths[:2]...) != 2 || Or(truths[2:2]...) != 0 {
		t.Error(zero)
	}
	if !reflect.DeepEqual(l, whole) || conds[2].Kind != 9 || conds[3].Leaf.Name != "f" || !reflect.DeepEqual(args, []api.Expr{num(1), {}}) {
		t.Error("written")
	}
}

// R3: what holds itself comes to an end.
func TestHoldsItself(t *testing.T) {
	for _, kind := range []int{api.KAnd, api.KOr, api.KNot, api.KLeaf, 0} {
		for n := 1; n <= 3; n++ {
			for at := range n {
				kids := slices.Repeat([]api.Cond{named("t")}, n)
				c := of(kind, kids...)
				kids[at] = c
				may(t, []int{kind, n, at}, c, false)
				Same(c, c)
				if Same(c, named("t")) || Same(c, of(kind, named("t"))) {
					t.Error(kind, n, at)
				}
				for s, kind := range map[string]int{"(a)": c.Kind, "not ((a))": api.KNot, "(a) or f()": api.KOr} {
					got, e := Parse(values(s), func(api.Value) (api.Cond, bool) { return c, true })
					if e != api.OK || got.Kind != kind {
						t.Error(s, e, got.Kind)
					}
				}
				refused(t, "barred", values("(a) and"), api.ErrSyntax)
			}
		}
	}
	twice := make([]api.Cond, 2)
	twice[0], twice[1] = and(twice...), or(twice...)
	may(t, "twice", not(twice[0]), false)
	Same(twice[0], twice[0])
	args := make([]api.Expr, 2)
	args[0], args[1] = sum(args...), sum(args...)
	for _, l := range []api.Leaf{{Kind: api.LCmp, Name: "a", Op: 1, Expr: args[0]}, {Kind: api.LBool, Name: "a", Expr: args[1]}} {
		may(t, l.Kind, leafOf(l), false)
		Same(leafOf(l), leafOf(l))
		if c, e := Parse(values("(a)"), func(api.Value) (api.Cond, bool) { return leafOf(l), true }); e != api.OK || c.Leaf.Name != "a" {
			t.Error(e)
		}
	}
	for _, kind := range []int{api.TFunc, api.TOpenParen, api.TIdent, 0} {
		for n := 1; n <= 3; n++ {
			l := make([]api.Value, n)
			for i := range l {
				l[i] = api.Value{Tok: api.Token{Kind: kind, Text: "not"}, Kids: l}
			}
			refused(t, []int{kind, n}, l, api.ErrArg)
		}
	}
}

// R3: what is long, or nests deep, comes to an end.
func TestLong(t *testing.T) {
	const n = 1 << 16
	far := []api.Cond{nest(n, named("a"), api.KNot), nest(n, named("a"), api.KNot), nest(n, named("b"), api.KNot), nest(n-1, named("a"), api.KNot)}
	if !Same(far[0], far[1]) || Same(far[0], far[2]) || Same(far[0], far[3]) || Same(far[3], far[0]) {
		t.Error("far")
	}
	deep := num(1)
	for range n - 1 {
		deep = sum(deep)
	}
	e := leafOf(api.Leaf{Kind: api.LCmp, Name: "a", Op: 1, Expr: deep})
	if !Same(e, e) || May(e) {
		t.Error("deep")
	}
	wide := and(slices.Repeat([]api.Cond{named("t"), or(named("f"), named("t"))}, n)...)
	if !May(wide) || len(Leaves(wide)) != 3*n || Eval(wide, ask) != api.TTrue || !Same(wide, wide) {
		t.Error("wide")
	}
	want := slices.Repeat([]api.Cond{named("a")}, n)
	for word, kind := range map[string]int{" and ": api.KAnd, " /**/ oR\n": api.KOr} {
		s := "(a)" + strings.Repeat(word+"(a)", n-1)
		if c, e := Parse(values(s), leaf); e != api.OK || !Same(c, of(kind, want...)) {
			t.Error(word, e)
		}
		refused(t, "barred", values(s+word), api.ErrSyntax)
	}
	reads(t, strings.Repeat(" /**/", n)+"(a)"+strings.Repeat("/**/ ", n), named("a"))
	reads(t, "("+strings.Repeat("(a) ", n)+")", unknown())
	truths := slices.Repeat([]int{2}, n)
	if And(truths...) != 2 || Or(append(truths, 0)...) != 2 || And(append(truths, 1)...) != 1 {
		t.Error("truths")
	}
}

// R6: many at one time tell what one tells alone.
func TestTogether(t *testing.T) {
	l, c := values(busy), large()
	want, _ := Parse(l, leaf)
	leaves := Leaves(c)
	good := make([]bool, 8)
	var all sync.WaitGroup
	for i := range good {
		all.Go(func() {
			good[i] = true
			for range 50 {
				a, _ := Parse(l, leaf)
				_, e := Parse(l[:len(l)-2], leaf)
				good[i] = good[i] && reflect.DeepEqual(a, want) && e == api.ErrSyntax && Eval(c, ask) == api.TUnknown && reflect.DeepEqual(Leaves(c), leaves) && Same(c, c) && May(c)
			}
		})
	}
	all.Wait()
	if want.Kind != api.KAnd || len(leaves) != 6 || slices.Contains(good, false) {
		t.Error(want, leaves, good)
	}
}
