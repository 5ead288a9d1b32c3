package match

import (
	"fmt"
	"slices"
	"strings"
	"testing"

	"jalousie/api"
	"jalousie/dom"
	"jalousie/rule"
	"jalousie/sel"
	"jalousie/tok"
)

// list: the selectors of a text.
func list(t *testing.T, s string) []api.Complex {
	t.Helper()
	l, e := sel.Parse(rule.Values(tok.Bytes([]byte(s))))
	if e != api.OK {
		t.Fatalf("%q: %d", s, e)
	}
	return l
}

// one: the only selector of a text.
func one(t *testing.T, s string) api.Complex {
	t.Helper()
	l := list(t, s)
	if len(l) != 1 {
		t.Fatalf("%q: %d selectors", s, len(l))
	}
	return l[0]
}

// grown: a tree by a text: elements with a space between, each a tag and its attributes (name=value, _ for a space) with commas between, as deep as it has dots ahead. Numbers are from 0.
func grown(t *testing.T, text string) *dom.Tree {
	t.Helper()
	var x *dom.Tree
	var path []int
	for i, word := range strings.Fields(text) {
		bare := strings.TrimLeft(word, ".")
		depth := len(word) - len(bare)
		pieces := strings.Split(bare, ",")
		e := api.OK
		if i == 0 {
			x, e = dom.New(pieces[0])
		} else {
			p, _ := x.Elem(path[depth-1])
			_, e = x.Insert(p.Id, len(p.Kids), pieces[0])
		}
		path = append(path[:depth], i)
		for _, attr := range pieces[1:] {
			name, value, _ := strings.Cut(attr, "=")
			x.Set(i, name, strings.ReplaceAll(value, "_", " "))
		}
		if e != api.OK {
			t.Fatalf("%s: %d", word, e)
		}
	}
	return x
}

// sample: the chapter's tree.
func sample(t *testing.T) *dom.Tree {
	return grown(t, "html .body,class=x_y ..p ..p,id=q,lang=en-us ..ul")
}

// checkAll holds what All tells of a text, and Meets and Any of each element, against those numbers.
func checkAll(t *testing.T, x *dom.Tree, s string, want ...int) {
	t.Helper()
	l := list(t, s)
	if got := All(x, l); !slices.Equal(got, want) {
		t.Errorf("%s: %v, not %v", s, got, want)
	}
	for _, id := range x.Order() {
		meets := slices.ContainsFunc(l, func(c api.Complex) bool { return Meets(x, id, c) })
		if meets != slices.Contains(want, id) {
			t.Errorf("Meets, %s: %d: %v", s, id, meets)
		}
		if _, ok := Any(x, id, l); ok != meets {
			t.Errorf("Any, %s: %d: %v", s, id, ok)
		}
	}
}

// P10.1, P10.2: the chapter's table.
func TestExamples(t *testing.T) {
	x := sample(t)
	checkAll(t, x, "p", 2, 3)
	checkAll(t, x, "body > p", 2, 3)
	checkAll(t, x, "html p + p", 3)
	checkAll(t, x, "p ~ ul", 4)
	checkAll(t, x, ".x p", 2, 3)
	checkAll(t, x, "#q", 3)
	checkAll(t, x, ":not(p)", 0, 1, 4)
	checkAll(t, x, ":root", 0)
	checkAll(t, x, ":empty", 2, 3, 4)
	checkAll(t, x, ":first-child", 0, 1, 2)
	checkAll(t, x, ":nth-child(2n)", 3)
	checkAll(t, x, "[lang|=en]", 3)
	checkAll(t, x, "[lang^=EN i]", 3)
	checkAll(t, x, `[lang=""]`)
	checkAll(t, x, `[class~="x y"]`)
	kind, name := Key(one(t, "a.b.c#d e.f"))
	if kind != api.SClass || name != "f" {
		t.Error(kind, name)
	}
}

// P10.1: each kind of a simple selector, met and not met.
func TestSimples(t *testing.T) {
	x := grown(t, "a .b,class=k_K_k,id=I ..c,id= ..c,class= .b,k=v ..d")
	for _, c := range []struct {
		text string
		want []int
	}{
		{"*", []int{0, 1, 2, 3, 4, 5}},
		{"b", []int{1, 4}}, {"B", nil}, {"e", nil},
		{".k", []int{1}}, {".K", []int{1}}, {".k.K", []int{1}}, {".i", nil}, {".b", nil},
		{"#I", []int{1}}, {"#i", nil}, {"#k", nil},
		{"[k]", []int{4}}, {"[id]", []int{1, 2}}, {"[class]", []int{1, 3}}, {"[K]", nil}, {"[v]", nil},
		{":not(b)", []int{0, 2, 3, 5}}, {":not(b, c)", []int{0, 5}}, {":not(*)", nil},
		{":is(b)", []int{1, 4}}, {":is(e, c)", []int{2, 3}}, {":is(e)", nil},
		{":where(b)", []int{1, 4}}, {":where(e, c)", []int{2, 3}}, {":where(e)", nil},
		{":root", []int{0}}, {"b:root", nil},
		{":empty", []int{2, 3, 5}}, {"b:empty", nil},
		{":first-child", []int{0, 1, 2, 5}}, {"b:first-child", []int{1}},
		{":last-child", []int{0, 3, 4, 5}}, {"b:last-child", []int{4}},
		{":only-child", []int{0, 5}}, {"c:only-child", nil},
		{":nth-child(2)", []int{3, 4}}, {"a:nth-child(2)", nil},
		{":nth-last-child(2)", []int{1, 2}}, {"a:nth-last-child(2)", nil},
		{"b.k#I", []int{1}}, {"b#I[k]", nil}, {"b:not(.k)[k]", []int{4}},
	} {
		checkAll(t, x, c.text, c.want...)
	}
}

// P10.1: the root is first, last and only one; its place is 1 from either end.
func TestRootsPlace(t *testing.T) {
	for _, x := range []*dom.Tree{grown(t, "a"), grown(t, "a .b .b .b")} {
		for _, s := range []string{":first-child", ":last-child", ":only-child", ":nth-child(1)", ":nth-child(n)", ":nth-child(odd)", ":nth-child(-n+1)", ":nth-last-child(1)", ":nth-last-child(3n+1)", ":nth-last-child(-2n+3)", ":root"} {
			if !Meets(x, 0, one(t, s)) {
				t.Errorf("%s", s)
			}
		}
		for _, s := range []string{":nth-child(2)", ":nth-child(0)", ":nth-child(even)", ":nth-child(n+2)", ":nth-last-child(2)", ":nth-last-child(-n)", "* > *", "* *", "* + *", "* ~ *"} {
			if Meets(x, 0, one(t, s)) {
				t.Errorf("%s", s)
			}
		}
	}
}

// attr: a selector of an attribute k.
func attr(op int, value string, fold bool) api.Complex {
	return api.Complex{Parts: []api.Compound{{Simples: []api.Simple{{Kind: api.SAttr, Name: "k", Op: op, Value: value, Fold: fold}}}}}
}

// P10.1: each of the seven Op, with Fold and without.
func TestAttributes(t *testing.T) {
	for _, c := range []struct {
		op          int
		want, value string
		plain, fold bool
	}{
		{api.OpIs, "v", "v", true, true}, {api.OpIs, "v", "V", false, true}, {api.OpIs, "v", "v ", false, false}, {api.OpIs, "v", "", false, false}, {api.OpIs, "", "", true, true}, {api.OpIs, "", "v", false, false}, {api.OpIs, "V", "v", false, true},
		{api.OpWord, "v", "v", true, true}, {api.OpWord, "v", "u v", true, true}, {api.OpWord, "v", "u\tv\nw", true, true}, {api.OpWord, "v", " v ", true, true}, {api.OpWord, "v", "u V w", false, true}, {api.OpWord, "v", "vv", false, false}, {api.OpWord, "v", "v-", false, false}, {api.OpWord, "v", "", false, false},
		{api.OpWord, "", "", false, false}, {api.OpWord, "", "u  v", false, false}, {api.OpWord, "", " ", false, false}, {api.OpWord, "u v", "u v", false, false}, {api.OpWord, "v\t", "v\t", false, false}, {api.OpWord, "\nv", "\nv", false, false}, {api.OpWord, " ", " ", false, false},
		{api.OpWord, "v", "u\rv", false, false}, {api.OpWord, "u\rv", "w u\rv", true, true}, {api.OpWord, "v", "u\fv", false, false}, {api.OpWord, "v", "u\u00a0v", false, false}, {api.OpWord, "v", "\xff v \xff", true, true}, {api.OpWord, "v", "\xffv", false, false}, {api.OpWord, "\ufffd", "\xff", false, false},
		{api.OpDash, "v", "v", true, true}, {api.OpDash, "v", "v-w", true, true}, {api.OpDash, "v", "v-", true, true}, {api.OpDash, "v", "V-w", false, true}, {api.OpDash, "v", "vw", false, false}, {api.OpDash, "v", "vw-", false, false}, {api.OpDash, "v", "u-v", false, false}, {api.OpDash, "v", "", false, false}, {api.OpDash, "v-w", "v-w-x", true, true}, {api.OpDash, "v", "v w", false, false},
		{api.OpDash, "", "", true, true}, {api.OpDash, "", "-", true, true}, {api.OpDash, "", "-v", true, true}, {api.OpDash, "", "v", false, false}, {api.OpDash, "", "v-", false, false}, {api.OpDash, "v w", "v w-x", true, true},
		{api.OpBegins, "v", "v", true, true}, {api.OpBegins, "v", "vw", true, true}, {api.OpBegins, "v", "Vw", false, true}, {api.OpBegins, "v", "uv", false, false}, {api.OpBegins, "vw", "v", false, false}, {api.OpBegins, "", "", false, false}, {api.OpBegins, "", "v", false, false}, {api.OpBegins, "v w", "v wx", true, true},
		{api.OpEnds, "v", "v", true, true}, {api.OpEnds, "v", "uv", true, true}, {api.OpEnds, "v", "uV", false, true}, {api.OpEnds, "v", "vu", false, false}, {api.OpEnds, "uv", "v", false, false}, {api.OpEnds, "", "", false, false}, {api.OpEnds, "", "v", false, false}, {api.OpEnds, " v", "u v", true, true},
		{api.OpIn, "v", "v", true, true}, {api.OpIn, "v", "uvw", true, true}, {api.OpIn, "v", "vu", true, true}, {api.OpIn, "v", "uV", false, true}, {api.OpIn, "vw", "vxw", false, false}, {api.OpIn, "", "", false, false}, {api.OpIn, "", "v", false, false}, {api.OpIn, " ", "u v", true, true},
		// Letters alike are A to Z alone.
		{api.OpIs, "\u00e4", "\u00c4", false, false}, {api.OpIs, "k", "\u212a", false, false}, {api.OpIs, "s", "\u017f", false, false}, {api.OpIs, "[", "{", false, false}, {api.OpIs, "@", "`", false, false}, {api.OpIs, "AZ", "az", false, true}, {api.OpIn, "\ufffd", "\xff", false, false}, {api.OpIs, "Z\u00e4", "z\u00e4", false, true},
	} {
		x := grown(t, "a")
		x.Set(0, "k", c.value)
		if got := Meets(x, 0, attr(c.op, c.want, false)); got != c.plain {
			t.Errorf("op %d, %q of %q: %v", c.op, c.want, c.value, got)
		}
		if got := Meets(x, 0, attr(c.op, c.want, true)); got != c.fold {
			t.Errorf("op %d, %q of %q, folded: %v", c.op, c.want, c.value, got)
		}
		x.Unset(0, "k")
		x.Set(0, "K", c.value)
		if Meets(x, 0, attr(c.op, c.want, false)) || Meets(x, 0, attr(c.op, c.want, true)) {
			t.Errorf("op %d, %q of no attribute", c.op, c.want)
		}
	}
}

// P10.1: [k] asks for the attribute alone.
func TestHas(t *testing.T) {
	x := grown(t, "a .b,k= .b,k=v .b,kk=v")
	checkAll(t, x, "[k]", 1, 2)
	if Meets(x, 1, attr(api.OpHas, "v", false)) || Meets(x, 1, attr(api.OpHas, "", true)) {
		t.Error("a selector that may not be")
	}
}

// P10.1: A and B below 0, 0 and above, against counting.
func TestSteps(t *testing.T) {
	const kids = 9
	x := grown(t, "a"+strings.Repeat(" .b", kids))
	for a := -5; a <= 5; a++ {
		for b := -12; b <= 12; b++ {
			for id := 1; id <= kids; id++ {
				first, last := id, kids+1-id
				if got, want := nth(x, id, api.SNth, a, b), counted(a, b, first); got != want {
					t.Errorf("nth %d %d of %d: %v", a, b, first, got)
				}
				if got, want := nth(x, id, api.SLastOf, a, b), counted(a, b, last); got != want {
					t.Errorf("nth-last %d %d of %d: %v", a, b, last, got)
				}
			}
		}
	}
	for _, c := range []struct {
		a, b int
		want bool
	}{
		{api.MaxStep, 1, true}, {-api.MaxStep, 1, true}, {api.MaxStep, 1 - api.MaxStep, true}, {-api.MaxStep, 1 - api.MaxStep, false}, {1, -api.MaxStep, true}, {-1, api.MaxStep, true}, {-1, -api.MaxStep, false}, {1, api.MaxStep, false}, {api.MaxStep, api.MaxStep, false}, {api.MaxStep + 1, 1, false}, {1, -api.MaxStep - 1, false},
	} {
		if got := nth(x, 1, api.SNth, c.a, c.b); got != c.want {
			t.Errorf("%d %d: %v", c.a, c.b, got)
		}
	}
}

func nth(x *dom.Tree, id, kind, a, b int) bool {
	return Meets(x, id, api.Complex{Parts: []api.Compound{{Simples: []api.Simple{{Kind: kind, A: a, B: b}}}}})
}

// counted goes through the n one by one.
func counted(a, b, i int) bool {
	for n := range 50 {
		if a*n+b == i {
			return true
		}
	}
	return false
}

// P10.1: each combinator; and where the nearest one above or ahead does not lead on, a farther one.
func TestCombinators(t *testing.T) {
	x := grown(t, "a .b,class=k ..c ...b ....c .....d ....d ...d .c ..d .d .d,class=k .d")
	// 0 a: 1 b.k: (2 c: (3 b: (4 c: 5 d), 6 d), 7 d), 8 c: 9 d, 10 d, 11 d.k, 12 d
	for _, c := range []struct {
		text string
		want []int
	}{
		{"a d", []int{5, 6, 7, 9, 10, 11, 12}}, {"b d", []int{5, 6, 7}}, {"d d", nil}, {"d a", nil},
		{"a > d", []int{10, 11, 12}}, {"b > d", []int{6}}, {"c > d", []int{5, 7, 9}}, {"d > *", nil},
		{"c + d", []int{6, 10}}, {"d + d", []int{11, 12}}, {"b + d", []int{7}}, {"d + c", nil}, {"a + *", nil},
		{"c ~ d", []int{6, 10, 11, 12}}, {"b ~ d", []int{7, 10, 11, 12}}, {"d ~ d", []int{11, 12}}, {"d ~ c", nil}, {"a ~ *", nil},
		// The nearest b above 5 is not in a: the farther one is.
		{"a > b d", []int{5, 6, 7}}, {".k > c d", []int{5, 6, 7}}, {".k c d", []int{5, 6, 7}}, {".k > c > d", []int{7}},
		{"a > b c d", []int{5, 6, 7}}, {"b > c c d", []int{5}}, {"b c b c d", []int{5}}, {"b b b d", nil},
		// The nearest d ahead of 12 is .k; the one that follows c is farther.
		{"c + d ~ d", []int{11, 12}}, {"b ~ d + d", []int{11, 12}}, {"b + c ~ .k + d", []int{12}}, {".k ~ .k", []int{11}}, {"b ~ c ~ d ~ d ~ d", []int{12}}, {"c + d + d + d", []int{12}},
		{"b ~ c d", []int{9}}, {"b + c > d", []int{9}}, {"a b ~ c > d", []int{9}}, {"b + d", []int{7}}, {"a > b b ~ d", []int{7}}, {"a > b + c ~ d", []int{10, 11, 12}}, {"c b c + d", []int{6}},
		{"a a", nil}, {"* * * * * *", []int{5}}, {"* * * * * * *", nil}, {"a > b > c > b > c > d", []int{5}},
	} {
		checkAll(t, x, c.text, c.want...)
	}
}

// P10.1: :not, :is and :where in one another, with combinators in them.
func TestNestedLists(t *testing.T) {
	x := grown(t, "a .b,class=k ..c ...d .c ..d ..b,class=k ...d")
	// 0 a: 1 b.k: (2 c: 3 d), 4 c: (5 d, 6 b.k: 7 d)
	for _, c := range []struct {
		text string
		want []int
	}{
		{":not(:not(d))", []int{3, 5, 7}}, {":not(:is(d, c))", []int{0, 1, 6}}, {":is(:not(d):not(c), :where(c):not(:first-child))", []int{0, 1, 4, 6}},
		{":is(b d)", []int{3, 7}}, {":not(b d)", []int{0, 1, 2, 4, 5, 6}}, {":not(b > d)", []int{0, 1, 2, 3, 4, 5, 6}}, {"d:not(.k d)", []int{5}},
		{":is(a > b) d", []int{3}}, {":is(a > .k, c > .k) > *", []int{2, 7}}, {":not(.k) > d", []int{3, 5}}, {":not(.k) d", []int{3, 5, 7}},
		{":where(:not(:is(:where(b, c) > d)))", []int{0, 1, 2, 4, 6}}, {":is(:is(a *) *)", []int{2, 3, 5, 6, 7}}, {":is(:is(:is(a *) *) *)", []int{3, 7}}, {":not(:not(:not(a *)))", []int{0}},
		{":is(d + .k, b + c) > d", []int{5, 7}}, {":is(x, d ~ .k)", []int{6}},
	} {
		checkAll(t, x, c.text, c.want...)
	}
}

// P10.1, P10.2: no such element, a selector that may not be, no tree.
func TestNothingMet(t *testing.T) {
	x := sample(t)
	any := one(t, "*")
	for _, id := range []int{-1, 5, 9, 1 << 40, -1 << 63} {
		if Meets(x, id, any) || Meets(x, id, one(t, ":not(p)")) {
			t.Error(id)
		}
		if w, ok := Any(x, id, list(t, "*, :not(#q)")); ok || w != (api.Weight{}) {
			t.Error(id, w, ok)
		}
	}
	x.Remove(3)
	if Meets(x, 3, any) || !Meets(x, 4, any) {
		t.Error("removed")
	}
	for _, nobody := range []*dom.Tree{nil, {}} {
		if _, ok := Any(nobody, 0, list(t, "*")); ok || Meets(nobody, 0, any) || len(All(nobody, list(t, "*"))) != 0 || len(New([][]api.Complex{list(t, "*")}).Hits(nobody, 0)) != 0 {
			t.Error("no tree")
		}
	}
}

// wrong: selectors that may not be.
func wrong() []api.Complex {
	tag := api.Simple{Kind: api.STag, Name: "p"}
	single := func(s ...api.Simple) api.Complex { return api.Complex{Parts: []api.Compound{{Simples: s}}} }
	return []api.Complex{
		{}, {Parts: []api.Compound{{}}}, single(api.Simple{}), single(api.Simple{Kind: 16}), single(api.Simple{Kind: -1}),
		single(api.Simple{Kind: api.STag}), single(tag, tag), single(api.Simple{Kind: api.SAny, Name: "p"}), single(api.Simple{Kind: api.STag, Name: "p", A: 1}), single(api.Simple{Kind: api.SId}),
		single(api.Simple{Kind: api.SNot}), single(api.Simple{Kind: api.SNot, List: []api.Complex{{}}}), single(api.Simple{Kind: api.SNot, List: []api.Complex{single(api.Simple{Kind: api.STag, Name: "z"}), {}}}),
		single(api.Simple{Kind: api.SAttr, Name: "lang", Op: 7}), single(api.Simple{Kind: api.SAttr, Name: "lang", Op: -1}), single(api.Simple{Kind: api.STag, Name: "p\x00"}), single(api.Simple{Kind: api.SNth, A: api.MaxStep + 1, B: 1}),
		{Parts: []api.Compound{{Comb: api.CDown, Simples: []api.Simple{tag}}}},
		{Parts: []api.Compound{{Simples: []api.Simple{{Kind: api.SAny}}}, {Simples: []api.Simple{tag}}}},
		{Parts: []api.Compound{{Simples: []api.Simple{{Kind: api.SAny}}}, {Comb: 5, Simples: []api.Simple{tag}}}},
		{Parts: []api.Compound{{Simples: []api.Simple{{Kind: api.SAny}}}, {Comb: -1, Simples: []api.Simple{tag}}}},
		{Parts: []api.Compound{{}, {Comb: api.CDown, Simples: []api.Simple{tag}}}},
	}
}

// P10.1 to P10.5: a selector that may not be is met by none, has no key, is never looked at; its neighbours stay.
func TestWrongSelectors(t *testing.T) {
	x := sample(t)
	for i, c := range wrong() {
		alone, among := []api.Complex{c}, []api.Complex{c, one(t, "#q"), c, one(t, "p"), c}
		for _, id := range x.Order() {
			if _, ok := Any(x, id, alone); ok || Meets(x, id, c) {
				t.Errorf("%d meets the wrong one %d", id, i)
			}
		}
		if kind, name := Key(c); kind != 0 || name != "" {
			t.Error(i, kind, name)
		}
		if l := All(x, alone); len(l) != 0 {
			t.Error(i, l)
		}
		if l := All(x, among); !slices.Equal(l, []int{2, 3}) {
			t.Error(i, l)
		}
		if w, ok := Any(x, 3, among); !ok || w != (api.Weight{1, 0, 0}) {
			t.Error(i, w, ok)
		}
		table := New([][]api.Complex{alone, among, alone})
		if got := fmt.Sprint(table.Hits(x, 3)); got != "[{1 [1 0 0]}]" || table.Asked() != 2 {
			t.Error(i, got, table.Asked())
		}
	}
}

// P10.2: the greatest weight of those that are met, whatever place it has.
func TestAny(t *testing.T) {
	x := sample(t)
	for _, c := range []struct {
		id   int
		text string
		want api.Weight
		ok   bool
	}{
		{3, "p, #q, .z, body #q", api.Weight{1, 0, 1}, true}, {3, "body #q, #q, p", api.Weight{1, 0, 1}, true}, {3, "p, #q", api.Weight{1, 0, 0}, true}, {3, "#q, p", api.Weight{1, 0, 0}, true},
		{3, "#z, p", api.Weight{0, 0, 1}, true}, {2, "p, #q, .x p", api.Weight{0, 1, 1}, true}, {2, "*", api.Weight{}, true}, {2, "*, :where(#q, p)", api.Weight{}, true}, {2, "#q, ul", api.Weight{}, false},
		{2, ":is(p, #q)", api.Weight{1, 0, 0}, true}, {2, ":not(#q)", api.Weight{1, 0, 0}, true}, {3, "[lang][id], [lang]", api.Weight{0, 2, 0}, true}, {0, "html:root, html", api.Weight{0, 1, 1}, true},
	} {
		if w, ok := Any(x, c.id, list(t, c.text)); w != c.want || ok != c.ok {
			t.Errorf("%s of %d: %v %v", c.text, c.id, w, ok)
		}
	}
	if w, ok := Any(x, 0, nil); ok || w != (api.Weight{}) {
		t.Error(w, ok)
	}
}

// P10.2: in tree order, not by numbers, each once.
func TestAllInTreeOrder(t *testing.T) {
	x, _ := dom.New("a")
	for _, parent := range []int{0, 0, 1, 2} {
		x.Insert(parent, 0, "b")
	}
	if got := All(x, list(t, "b, *, b b")); !slices.Equal(got, []int{0, 2, 4, 1, 3}) {
		t.Error(got)
	}
	if got := All(x, list(t, "b b, b")); !slices.Equal(got, []int{2, 4, 1, 3}) {
		t.Error(got)
	}
	if got := All(x, nil); len(got) != 0 {
		t.Error(got)
	}
}

// P10.3: SId ahead of SClass ahead of STag, the first of each, of the last compound alone.
func TestKey(t *testing.T) {
	for _, c := range []struct {
		text string
		kind int
		name string
	}{
		{"a", api.STag, "a"}, {".b", api.SClass, "b"}, {"#c", api.SId, "c"}, {"*", 0, ""},
		{"a.b", api.SClass, "b"}, {"a#c", api.SId, "c"}, {".b#c", api.SId, "c"}, {"#c.b", api.SId, "c"}, {"a.b#c", api.SId, "c"}, {".b.d", api.SClass, "b"}, {"#c#e", api.SId, "c"}, {"a.b#c.d#e", api.SId, "c"},
		{"#c a", api.STag, "a"}, {"#c .b", api.SClass, "b"}, {"#c > *", 0, ""}, {".b + :root", 0, ""}, {"a ~ [k]", 0, ""}, {"a b c", api.STag, "c"},
		{":is(#c)", 0, ""}, {":not(a)", 0, ""}, {":where(.b)", 0, ""}, {"a:is(#c)", api.STag, "a"}, {"*:first-child", 0, ""}, {"[id=c]", 0, ""}, {"[k].b", api.SClass, "b"}, {":root:nth-child(2)#c", api.SId, "c"},
	} {
		if kind, name := Key(one(t, c.text)); kind != c.kind || name != c.name {
			t.Errorf("%s: %d %q", c.text, kind, name)
		}
	}
}
