package dom

import (
	"math"
	"reflect"
	"slices"
	"strconv"
	"strings"
	"testing"

	"jalousie/api"
)

func whole(n int64) api.Rat { return api.Rat{Num: n, Den: 1} }

// blankBox is the box of a new element.
func blankBox() api.Box { return api.Box{Type: 0, Name: "", W: whole(0), H: whole(0)} }

// el is an element a, with the box of a new one.
func el(id, parent int, kids ...int) api.Elem {
	return api.Elem{Id: id, Parent: parent, Tag: "a", Kids: kids, Box: blankBox()}
}

func mustNew(t *testing.T, tag string) *Tree {
	t.Helper()
	x, e := New(tag)
	if x == nil || e != api.OK {
		t.Fatalf("New(%q): %v %d", tag, x, e)
	}
	return x
}

func mustLoad(t *testing.T, l []api.Elem) *Tree {
	t.Helper()
	x, e := Load(l)
	if x == nil || e != api.OK {
		t.Fatalf("Load(%v): %v %d", l, x, e)
	}
	return x
}

func mustInsert(t *testing.T, x *Tree, parent, at int, tag string) int {
	t.Helper()
	id, e := x.Insert(parent, at, tag)
	if e != api.OK {
		t.Fatalf("Insert(%d, %d, %q): %d", parent, at, tag, e)
	}
	return id
}

func wantErr(t *testing.T, what string, got, want api.Errno) {
	t.Helper()
	if got != want {
		t.Errorf("%s: error %d, want %d", what, got, want)
	}
}

func wantIds(t *testing.T, what string, got []int, want ...int) {
	t.Helper()
	if !slices.Equal(got, want) {
		t.Errorf("%s: %v, want %v", what, got, want)
	}
}

// seen is all that is seen of a tree but Next.
type seen struct {
	Root   int
	Len    int
	Order  []int
	Elems  []api.Elem
	Below  [][]int
	Places []int
	Values [][]string
}

func see(x *Tree) seen {
	s := seen{Root: x.Root(), Len: x.Len(), Order: x.Order(), Elems: x.Elems()}
	for _, id := range s.Order {
		place, _ := x.Place(id)
		e, _ := x.Elem(id)
		values := x.Classes(id)
		for _, a := range e.Attrs {
			v, _ := x.Attr(id, a.Name)
			values = append(values, a.Name, v)
		}
		s.Below = append(s.Below, x.Below(id))
		s.Places = append(s.Places, place)
		s.Values = append(s.Values, values)
	}
	return s
}

func wantSame(t *testing.T, what string, got, want seen) {
	t.Helper()
	if !reflect.DeepEqual(got, want) {
		t.Errorf("%s:\n%+v, want\n%+v", what, got, want)
	}
}

// The chapter's table of examples, line by line.
func TestExamples(t *testing.T) {
	x := mustNew(t, "html")
	if x.Root() != 0 || x.Len() != 1 || x.Next() != 1 {
		t.Error("New:", x.Root(), x.Len(), x.Next())
	}
	if y, e := New("1a"); y != nil || e != api.ErrName {
		t.Error("New(1a):", y, e)
	}
	insert := func(parent, at int, tag string, id int, e api.Errno) {
		t.Helper()
		if gotId, gotE := x.Insert(parent, at, tag); gotId != id || gotE != e {
			t.Errorf("Insert(%d, %d, %s): %d %d, want %d %d", parent, at, tag, gotId, gotE, id, e)
		}
	}
	insert(0, 0, "body", 1, api.OK)
	insert(0, 0, "head", 2, api.OK)
	insert(0, 3, "x", 0, api.ErrIndex)
	insert(9, 0, "x", 0, api.ErrNode)
	wantIds(t, "Order", x.Order(), 0, 2, 1)
	insert(1, 0, "p", 3, api.OK)
	wantIds(t, "Order", x.Order(), 0, 2, 1, 3)
	wantIds(t, "Below(1)", x.Below(1), 1, 3)
	if place, ok := x.Place(1); place != 1 || !ok {
		t.Error("Place(1):", place, ok)
	}
	wantErr(t, "Remove(0)", x.Remove(0), api.ErrArg)
	wantErr(t, "Remove(1)", x.Remove(1), api.OK)
	if x.Len() != 2 || x.Next() != 4 {
		t.Error("Len, Next:", x.Len(), x.Next())
	}
	insert(0, 1, "q", 4, api.OK)
	wantErr(t, "Set", x.Set(2, "class", " a b a"), api.OK)
	if l := x.Classes(2); !slices.Equal(l, []string{"a", "b"}) {
		t.Errorf("Classes: %q", l)
	}
	wantErr(t, "Unset", x.Unset(2, "id"), api.ErrName)
	wantErr(t, "SetBox type", x.SetBox(2, api.Box{Type: 3}), api.ErrSize)
	wantErr(t, "SetBox", x.SetBox(2, api.Box{Type: 1, W: whole(5), H: whole(0)}), api.OK)
	wantErr(t, "SetBox over", x.SetBox(2, api.Box{Type: 1, W: api.Rat{}}), api.ErrSize)
}

// P8.1: the root as it is made, and tags that are none.
func TestNew(t *testing.T) {
	for _, tag := range []string{"a", "Z", "_", "h1", "a-b_C-9", strings.Repeat("q", 64)} {
		x := mustNew(t, tag)
		want := api.Elem{Id: 0, Parent: -1, Tag: tag, Box: blankBox()}
		if e, ok := x.Elem(0); !ok || !reflect.DeepEqual(e, want) {
			t.Errorf("New(%q): %+v %v", tag, e, ok)
		}
		if x.Root() != 0 || x.Len() != 1 || x.Next() != 1 || !slices.Equal(x.Order(), []int{0}) {
			t.Errorf("New(%q): %d %d %d %v", tag, x.Root(), x.Len(), x.Next(), x.Order())
		}
	}
	for _, tag := range []string{"", "1", "-", "-a", "a b", " a", "a ", "a\x00", "é", "a\xff", strings.Repeat("q", 65)} {
		if x, e := New(tag); x != nil || e != api.ErrName {
			t.Errorf("New(%q): %v %d", tag, x, e)
		}
	}
}

// P8.3: at 0, at the end, between; one behind the end and below 0.
func TestInsertPlaces(t *testing.T) {
	x := mustNew(t, "r")
	for i, at := range []int{0, 1, 0, 1, 4} {
		if id := mustInsert(t, x, 0, at, "k"); id != i+1 || x.Next() != i+2 {
			t.Errorf("Insert %d: %d, next %d", i, id, x.Next())
		}
	}
	e, _ := x.Elem(0)
	wantIds(t, "kids", e.Kids, 3, 4, 1, 2, 5)
	for place, id := range e.Kids {
		if got, ok := x.Place(id); got != place || !ok {
			t.Errorf("Place(%d): %d %v", id, got, ok)
		}
	}
	k, ok := x.Elem(4)
	if want := (api.Elem{Id: 4, Parent: 0, Tag: "k", Box: blankBox()}); !ok || !reflect.DeepEqual(k, want) {
		t.Errorf("a new element: %+v", k)
	}
	before := see(x)
	for _, at := range []int{-1, 6, math.MinInt, math.MaxInt} {
		if id, e := x.Insert(0, at, "k"); id != 0 || e != api.ErrIndex {
			t.Errorf("Insert at %d: %d %d", at, id, e)
		}
	}
	wantSame(t, "behind refused ones", see(x), before)
	if x.Next() != 6 {
		t.Error("a refused Insert took a number:", x.Next())
	}
}

// P8.3: MaxNodes elements and one more; room comes again by Remove, numbers don't.
func TestInsertFull(t *testing.T) {
	x := mustNew(t, "r")
	for x.Len() < 256 {
		mustInsert(t, x, 0, x.Len()-1, "k")
	}
	if id, e := x.Insert(0, 0, "k"); id != 0 || e != api.ErrFull || x.Len() != 256 || x.Next() != 256 {
		t.Error("one more:", id, e, x.Len(), x.Next())
	}
	wantErr(t, "Remove", x.Remove(255), api.OK)
	if id := mustInsert(t, x, 0, 0, "k"); id != 256 {
		t.Error("a number came again:", id)
	}
	_, e := x.Insert(0, 0, "k")
	wantErr(t, "one more again", e, api.ErrFull)
}

// P8.3: the next number at MaxId, and above it.
func TestInsertLastNumber(t *testing.T) {
	x := mustLoad(t, []api.Elem{el(1<<30-1, -1)})
	if x.Next() != 1<<30 {
		t.Error("next:", x.Next())
	}
	if id := mustInsert(t, x, 1<<30-1, 0, "k"); id != 1<<30 || x.Next() != 1<<30+1 {
		t.Error("the last number:", id, x.Next())
	}
	for range 2 {
		if id, e := x.Insert(1<<30-1, 0, "k"); id != 0 || e != api.ErrFull || x.Next() != 1<<30+1 {
			t.Error("above MaxId:", id, e, x.Next())
		}
	}
	wantErr(t, "Remove", x.Remove(1<<30), api.OK)
	_, e := x.Insert(1<<30-1, 0, "k")
	wantErr(t, "a number does not come again", e, api.ErrFull)
}

// chain is the elements of a tree in which each has the next one below it.
func chain(n int) []api.Elem {
	var l []api.Elem
	for i := range n {
		l = append(l, el(i, i-1, i+1))
	}
	l[n-1].Kids = nil
	return l
}

// P8.3: a depth of MaxTree and one deeper.
func TestInsertDeep(t *testing.T) {
	x := mustNew(t, "r")
	for depth := 2; depth <= 32; depth++ {
		mustInsert(t, x, depth-2, 0, "k")
	}
	if id, e := x.Insert(31, 0, "k"); id != 0 || e != api.ErrDeep || x.Next() != 32 {
		t.Error("one deeper:", id, e, x.Next())
	}
	mustInsert(t, x, 30, 1, "k")
	y := mustLoad(t, chain(32))
	_, e := y.Insert(31, 0, "k")
	wantErr(t, "one deeper than what is loaded", e, api.ErrDeep)
}

// P8.3, R4: of several errors the first that the chapter lists.
func TestInsertFirstError(t *testing.T) {
	deep := mustLoad(t, chain(32))
	full := mustNew(t, "r")
	for id := range 31 {
		mustInsert(t, full, id, 0, "k")
	}
	for full.Len() < 256 {
		mustInsert(t, full, 0, 0, "k")
	}
	last := chain(32)
	last[31].Id, last[30].Kids = 1<<30, []int{1 << 30}
	numbers := mustLoad(t, last)
	for _, c := range []struct {
		x          *Tree
		parent, at int
		tag        string
		e          api.Errno
	}{
		{full, 999, 9, "1", api.ErrNode}, {full, -1, 0, "k", api.ErrNode}, {full, 31, 1, "1", api.ErrIndex}, {full, 31, 0, "1", api.ErrName},
		{full, 31, 0, "k", api.ErrFull}, {numbers, 1 << 30, 0, "k", api.ErrFull}, {deep, 31, 1, "", api.ErrIndex}, {deep, 31, 0, "", api.ErrName},
		{deep, 31, 0, "k", api.ErrDeep}, {deep, 32, 5, "", api.ErrNode},
	} {
		before, next := see(c.x), c.x.Next()
		if id, e := c.x.Insert(c.parent, c.at, c.tag); id != 0 || e != c.e {
			t.Errorf("Insert(%d, %d, %q): %d %d, want %d", c.parent, c.at, c.tag, id, e, c.e)
		}
		wantSame(t, "behind an error", see(c.x), before)
		if c.x.Next() != next {
			t.Error("an error took a number")
		}
	}
}

// P8.4: the root, what is gone, what never was, one with many below it.
func TestRemove(t *testing.T) {
	x := mustNew(t, "r")
	left, mid, right := mustInsert(t, x, 0, 0, "l"), mustInsert(t, x, 0, 1, "m"), mustInsert(t, x, 0, 2, "n")
	var below []int
	for range 50 {
		kid := mustInsert(t, x, mid, 0, "k")
		below = append(below, kid, mustInsert(t, x, kid, 0, "g"))
	}
	wantErr(t, "the root", x.Remove(0), api.ErrArg)
	for _, id := range []int{-1, 104, math.MinInt, math.MaxInt} {
		wantErr(t, "what is not there", x.Remove(id), api.ErrNode)
	}
	if x.Len() != 104 {
		t.Error("a refused Remove took elements:", x.Len())
	}
	wantErr(t, "many", x.Remove(mid), api.OK)
	wantIds(t, "Order", x.Order(), 0, left, right)
	if x.Len() != 3 || x.Next() != 104 || len(x.Elems()) != 3 {
		t.Error("behind Remove:", x.Len(), x.Next(), x.Elems())
	}
	for _, id := range append(below, mid) {
		e, there := x.Elem(id)
		place, placed := x.Place(id)
		if there || placed || place != 0 || !reflect.DeepEqual(e, api.Elem{}) || len(x.Below(id)) != 0 || len(x.Classes(id)) != 0 {
			t.Errorf("%d is still seen: %v %d", id, e, place)
		}
		wantErr(t, "Remove of what is gone", x.Remove(id), api.ErrNode)
		wantErr(t, "Set of what is gone", x.Set(id, "a", ""), api.ErrNode)
		_, fault := x.Insert(id, 0, "k")
		wantErr(t, "Insert into what is gone", fault, api.ErrNode)
	}
	wantErr(t, "the last one", x.Remove(right), api.OK)
	wantErr(t, "the first one", x.Remove(left), api.OK)
	wantIds(t, "Order", x.Order(), 0)
	wantErr(t, "the root still", x.Remove(0), api.ErrArg)
}

// P8.4: a root with another number than 0.
func TestRemoveLoadedRoot(t *testing.T) {
	x := mustLoad(t, []api.Elem{el(0, 7), el(7, -1, 0)})
	wantErr(t, "the root", x.Remove(7), api.ErrArg)
	wantErr(t, "another one", x.Remove(0), api.OK)
	wantIds(t, "Order", x.Order(), 7)
}

// P8.5: Set of a new name and of one that is there, Unset of one that is and of one that is not.
func TestSet(t *testing.T) {
	x := mustNew(t, "r")
	mustInsert(t, x, 0, 0, "k")
	any := "\x00\xff \n<é>"
	for _, c := range []api.Attr{{Name: "m", Value: "1"}, {Name: "a", Value: ""}, {Name: "z", Value: any}, {Name: "M", Value: "2"}, {Name: "m-", Value: "3"}, {Name: "m", Value: strings.Repeat("v", 256)}} {
		wantErr(t, "Set "+c.Name, x.Set(1, c.Name, c.Value), api.OK)
		if v, ok := x.Attr(1, c.Name); v != c.Value || !ok {
			t.Errorf("Attr(1, %s): %q %v", c.Name, v, ok)
		}
	}
	want := []api.Attr{{Name: "M", Value: "2"}, {Name: "a"}, {Name: "m", Value: strings.Repeat("v", 256)}, {Name: "m-", Value: "3"}, {Name: "z", Value: any}}
	if e, _ := x.Elem(1); !slices.Equal(e.Attrs, want) {
		t.Errorf("Attrs: %v", e.Attrs)
	}
	if e, _ := x.Elem(0); len(e.Attrs) != 0 {
		t.Errorf("another's Attrs: %v", e.Attrs)
	}
	wantErr(t, "Unset", x.Unset(1, "m"), api.OK)
	if v, ok := x.Attr(1, "m"); v != "" || ok {
		t.Errorf("Attr of what is gone: %q %v", v, ok)
	}
	before := see(x)
	for _, name := range []string{"m", "A", "b", "", "1", "a b", strings.Repeat("a", 65)} {
		wantErr(t, "Unset "+name, x.Unset(1, name), api.ErrName)
	}
	wantErr(t, "Unset at another", x.Unset(0, "a"), api.ErrName)
	wantErr(t, "Unset at none", x.Unset(2, "a"), api.ErrNode)
	wantErr(t, "Unset of none at none", x.Unset(-1, ""), api.ErrNode)
	wantSame(t, "behind refused ones", see(x), before)
}

// P8.5, R4: the errors of Set, the first listed first; MaxAttrs and one more.
func TestSetErrors(t *testing.T) {
	x := mustNew(t, "r")
	for i := range 16 {
		wantErr(t, "Set", x.Set(0, "n"+strconv.Itoa(i), ""), api.OK)
	}
	long := strings.Repeat("v", 257)
	before := see(x)
	for _, c := range []struct {
		id          int
		name, value string
		e           api.Errno
	}{
		{1, "", long, api.ErrNode}, {-1, "a", "", api.ErrNode}, {0, "", long, api.ErrName}, {0, "-a", "", api.ErrName}, {0, strings.Repeat("a", 65), "", api.ErrName},
		{0, "new", long, api.ErrLong}, {0, "n1", long, api.ErrLong}, {0, "new", "", api.ErrFull}, {0, strings.Repeat("a", 64), "v", api.ErrFull},
	} {
		wantErr(t, "Set "+c.name, x.Set(c.id, c.name, c.value), c.e)
	}
	wantSame(t, "behind refused ones", see(x), before)
	wantErr(t, "one that is there, when full", x.Set(0, "n15", "v"), api.OK)
	wantErr(t, "Unset", x.Unset(0, "n7"), api.OK)
	wantErr(t, "a new one behind Unset", x.Set(0, "new", "v"), api.OK)
	wantErr(t, "one more", x.Set(0, "newer", "v"), api.ErrFull)
	if e, _ := x.Elem(0); len(e.Attrs) != 16 {
		t.Error(e.Attrs)
	}
}

// boxes that may be, and others.
func goodBoxes() []api.Box {
	top := api.Rat{Num: math.MaxInt64, Den: 1}
	low := api.Rat{Num: 1, Den: math.MaxInt64}
	name := strings.Repeat("n", 64)
	return []api.Box{blankBox(), {Type: 1, W: whole(5), H: whole(0)}, {Type: 2, Name: name, W: top, H: low}, {Type: 0, Name: "_", W: low, H: top}, {Type: 2, W: api.Rat{Num: 3, Den: 2}, H: whole(0)}}
}

func badBoxes() []api.Box {
	var l []api.Box
	for _, kind := range []int{-1, 3, 4, math.MinInt, math.MaxInt} {
		l = append(l, api.Box{Type: kind, W: whole(1), H: whole(1)})
	}
	for _, name := range []string{"1", "-n", "n n", " ", "é", strings.Repeat("n", 65)} {
		l = append(l, api.Box{Type: 1, Name: name, W: whole(1), H: whole(1)})
	}
	sides := []api.Rat{{}, whole(-1), {Num: -1, Den: math.MaxInt64}, {Num: 2, Den: 2}, {Num: 0, Den: 2}, {Num: 1, Den: 0}, {Num: 1, Den: -1}, {Num: -1, Den: -1}, {Num: 0, Den: -1}, {Num: math.MinInt64, Den: 1}, {Num: math.MinInt64, Den: math.MinInt64}}
	for _, side := range sides {
		l = append(l, api.Box{Type: 2, W: side, H: whole(1)}, api.Box{Type: 2, W: whole(1), H: side})
	}
	return append(l, api.Box{})
}

// P8.5, P8.7: boxes.
func TestBoxes(t *testing.T) {
	x := mustNew(t, "r")
	mustInsert(t, x, 0, 0, "k")
	for _, b := range goodBoxes() {
		wantErr(t, "SetBox", x.SetBox(1, b), api.OK)
		e, _ := x.Elem(1)
		if r, _ := x.Elem(0); !MayBox(b) || e.Box != b || r.Box != blankBox() {
			t.Errorf("box %+v: %v %v", b, e.Box, r.Box)
		}
	}
	before := see(x)
	for _, b := range badBoxes() {
		if MayBox(b) {
			t.Errorf("box %+v may be", b)
		}
		wantErr(t, "SetBox", x.SetBox(1, b), api.ErrSize)
		wantErr(t, "SetBox at none", x.SetBox(2, b), api.ErrNode)
	}
	wantErr(t, "SetBox at none", x.SetBox(2, blankBox()), api.ErrNode)
	wantSame(t, "behind refused ones", see(x), before)
}

// P8.7: each byte as a name's first and as a later one; the lengths.
func TestMayName(t *testing.T) {
	const heads = "abcdefghijklmnopqrstuvwxyzABCDEFGHIJKLMNOPQRSTUVWXYZ_"
	for i := range 256 {
		c := string([]byte{byte(i)})
		head, part := strings.Contains(heads, c), strings.Contains(heads+"0123456789-", c)
		for s, want := range map[string]bool{c: head, c + "a": head, "a" + c: part, "a" + c + "-": part, "_-0" + c: part} {
			if MayName(s) != want {
				t.Errorf("MayName(%q): %v", s, !want)
			}
		}
	}
	for n := range 200 {
		if MayName(strings.Repeat("x", n)) != (n >= 1 && n <= 64) {
			t.Error("MayName of the length", n)
		}
	}
	if MayName(strings.Repeat("x", 63)+"é") || MayName(strings.Repeat("x", 63)+" ") || !MayName(strings.Repeat("x", 63)+"-") {
		t.Error("MayName at the last byte")
	}
}

// P8.6: blanks of each kind, pieces twice, what is no blank.
func TestClasses(t *testing.T) {
	x := mustNew(t, "r")
	if l := x.Classes(0); len(l) != 0 {
		t.Errorf("without the attribute: %q", l)
	}
	wantErr(t, "Set", x.Set(0, "Class", "x"), api.OK)
	wantErr(t, "Set", x.Set(0, "classes", "x"), api.OK)
	if l := x.Classes(0); len(l) != 0 {
		t.Errorf("of other attributes: %q", l)
	}
	for value, want := range map[string][]string{
		"": nil, " \t\n": nil, "a": {"a"}, "a b": {"a", "b"}, "\ta\nb c\t\n d ": {"a", "b", "c", "d"}, "b a b A a": {"b", "a", "A"},
		"a\rb a\fb a\vb": {"a\rb", "a\fb", "a\vb"}, "a\u00a0b\u2003c\u0085": {"a\u00a0b\u2003c\u0085"}, "\xe4 \xff\t\xe4\n\x00": {"\xe4", "\xff", "\x00"},
		"ab a b ab": {"ab", "a", "b"}, "é é e": {"é", "e"}, "\xc2\x85 \xc2 \x85": {"\xc2\x85", "\xc2", "\x85"},
	} {
		wantErr(t, "Set", x.Set(0, "class", value), api.OK)
		if l := x.Classes(0); !slices.Equal(l, want) {
			t.Errorf("Classes of %q: %q, want %q", value, l, want)
		}
	}
	if l := x.Classes(1); len(l) != 0 {
		t.Errorf("of none: %q", l)
	}
}

// P8.6: what is seen of what is not there is nothing, beside a false all is zero (R4).
func TestSeenOfNone(t *testing.T) {
	x := mustLoad(t, []api.Elem{el(3, 7), el(7, -1, 9, 3), el(9, 7)})
	for _, id := range []int{-1, 0, 8, 10, math.MinInt, math.MaxInt} {
		e, there := x.Elem(id)
		place, placed := x.Place(id)
		value, has := x.Attr(id, "a")
		if there || placed || has || place != 0 || value != "" || !reflect.DeepEqual(e, api.Elem{}) || len(x.Below(id)) != 0 || len(x.Classes(id)) != 0 {
			t.Errorf("of %d: %v %d %q", id, e, place, value)
		}
	}
	for _, name := range []string{"", "a", "\xff", strings.Repeat("a", 1000)} {
		if v, ok := x.Attr(7, name); v != "" || ok {
			t.Errorf("Attr %q: %q %v", name, v, ok)
		}
	}
	if place, ok := x.Place(7); place != 0 || !ok {
		t.Error("of the root:", place, ok)
	}
}

// P8.6: a copy and its first are edited side by side.
func TestCopy(t *testing.T) {
	x := sample(t)
	wantErr(t, "Remove", x.Remove(x.Next()-1), api.OK)
	y := x.Copy()
	first := see(x)
	wantSame(t, "a copy", see(y), first)
	if y.Next() != x.Next() {
		t.Error("the next number:", y.Next(), x.Next())
	}
	editAll(t, y)
	wantSame(t, "the first, when its copy is edited", see(x), first)
	z := x.Copy()
	editAll(t, x)
	wantSame(t, "a copy, when its first is edited", see(z), first)
	wantSame(t, "both, edited alike", see(x), see(y))
	if x.Next() != y.Next() || z.Next() == x.Next() {
		t.Error("the next numbers:", x.Next(), y.Next(), z.Next())
	}
}

// sample is a tree with kids, attributes and boxes.
func sample(t *testing.T) *Tree {
	t.Helper()
	x := mustNew(t, "html")
	for _, c := range [][2]int{{0, 0}, {0, 1}, {0, 0}, {1, 0}, {1, 1}, {4, 0}, {2, 0}} {
		mustInsert(t, x, c[0], c[1], "k")
	}
	for _, id := range x.Order() {
		wantErr(t, "Set", x.Set(id, "class", "a b"), api.OK)
		wantErr(t, "Set", x.Set(id, "id", strconv.Itoa(id)), api.OK)
	}
	wantErr(t, "SetBox", x.SetBox(1, api.Box{Type: 2, Name: "main", W: whole(9), H: whole(8)}), api.OK)
	return x
}

// editAll changes each thing that can be changed, of each element of sample.
func editAll(t *testing.T, x *Tree) {
	t.Helper()
	for _, id := range x.Order() {
		wantErr(t, "Set", x.Set(id, "class", "c"), api.OK)
		wantErr(t, "Set", x.Set(id, "aa", "new"), api.OK)
		wantErr(t, "Unset", x.Unset(id, "id"), api.OK)
		wantErr(t, "SetBox", x.SetBox(id, api.Box{Type: 1, Name: "other", W: whole(1), H: whole(1)}), api.OK)
		mustInsert(t, x, id, 0, "new")
	}
	wantErr(t, "Remove", x.Remove(2), api.OK)
}

// R3: nothing is said of trees that nobody made, but that no call panics.
func TestTreesThatNobodyMade(t *testing.T) {
	for _, x := range []*Tree{nil, {}} {
		for _, id := range []int{0, 1, -1} {
			x.Insert(id, 0, "a")
			x.Remove(id)
			x.Set(id, "a", "b")
			x.Unset(id, "a")
			x.SetBox(id, blankBox())
			x.Elem(id)
			x.Below(id)
			x.Place(id)
			x.Attr(id, "a")
			x.Classes(id)
		}
		if x.Root() != 0 || x.Len() != 0 || x.Next() != 0 || len(x.Order()) != 0 || len(x.Elems()) != 0 || x.Copy().Len() != 0 {
			t.Error("a tree without elements shows some")
		}
	}
}
