package sel

import (
	"math"
	"reflect"
	"testing"

	"jalousie/api"
)

// all: a selector of each kind that may be.
func all() []api.Simple {
	l := []api.Simple{word(api.SAny), tag("a"), class("a"), id("a")}
	for op := api.OpIs; op <= api.OpIn; op++ {
		l = append(l, attr("a", op, "b", false), attr("a", op, "b", true), attr("a", op, "", true))
	}
	l = append(l, attr("a", api.OpHas, "", false), nth(2, 1), nthLast(-1, 3), nth(0, 0))
	for kind := api.SNot; kind <= api.SWhere; kind++ {
		l = append(l, of(kind, side(tag("a"))), of(kind, side(tag("a")), side(class("b"), id("c"))))
	}
	for kind := api.SRoot; kind <= api.SOnly; kind++ {
		l = append(l, word(kind))
	}
	return l
}

// P9.2: lists that have nothing in them, at each place.
func TestMayEmpty(t *testing.T) {
	may(t, "nil", nil, false)
	may(t, "no selector", []api.Complex{}, false)
	may(t, "no compound", []api.Complex{{}}, false)
	may(t, "an empty list of them", []api.Complex{{Parts: []api.Compound{}}}, false)
	may(t, "no simple selector", []api.Complex{row(with(api.CNone))}, false)
	may(t, "the second", []api.Complex{row(with(api.CNone, tag("a")), with(api.CDown))}, false)
	may(t, "the second of the list", []api.Complex{side(tag("a")), {}}, false)
	may(t, "the first of the list", []api.Complex{{}, side(tag("a"))}, false)
	for kind := api.SNot; kind <= api.SWhere; kind++ {
		may(t, kind, lone(of(kind)), false)
		may(t, kind, lone(api.Simple{Kind: kind, List: []api.Complex{}}), false)
		may(t, kind, lone(of(kind, api.Complex{})), false)
		may(t, kind, lone(of(kind, side(tag("a")), side(tag("")))), false)
		may(t, kind, lone(of(kind, side(tag("a")))), true)
	}
}

// P9.2: combinators: none of the first, one of each other.
func TestMayCombinators(t *testing.T) {
	for _, comb := range []int{-1, 0, 1, 2, 3, 4, 5, 256, math.MaxInt, math.MinInt} {
		may(t, comb, []api.Complex{row(with(comb, tag("a")))}, comb == api.CNone)
		is := comb >= api.CDown && comb <= api.CLater
		may(t, comb, []api.Complex{row(with(api.CNone, tag("a")), with(comb, tag("b")))}, is)
		may(t, comb, []api.Complex{row(with(api.CNone, tag("a")), with(api.CNext, tag("b")), with(comb, tag("b")))}, is)
		may(t, comb, lone(of(api.SIs, row(with(comb, tag("a"))))), comb == api.CNone)
	}
}

// P9.2: each kind alone, first, and behind another one: a tag and * stand first alone.
func TestMayKinds(t *testing.T) {
	for _, s := range all() {
		may(t, s, lone(s), true)
		first := s.Kind == api.STag || s.Kind == api.SAny
		for _, ahead := range []api.Simple{tag("x"), word(api.SAny), class("x"), word(api.SRoot)} {
			may(t, s, lone(ahead, s), !first)
			may(t, s, lone(ahead, class("y"), s), !first)
			may(t, s, []api.Complex{row(with(api.CNone, ahead), with(api.CChild, s))}, true)
		}
		again(t, s, lone(s))
		for _, behind := range all() {
			if behind.Kind != api.STag && behind.Kind != api.SAny {
				again(t, behind, lone(s, behind))
			}
			again(t, behind, []api.Complex{side(s), row(with(api.CNone, s), with(api.CDown, behind), with(api.CLater, s))})
		}
	}
	for _, kind := range []int{0, -1, 16, 17, 1<<32 + 1, math.MaxInt, math.MinInt} {
		may(t, kind, lone(word(kind)), false)
		may(t, kind, lone(tag("a"), word(kind)), false)
		may(t, kind, lone(api.Simple{Kind: kind, Name: "a"}), false)
	}
}

// P9.2: a field that api names for no kind such as this is zero.
func TestMayFields(t *testing.T) {
	fields := []func(*api.Simple){
		func(s *api.Simple) { s.Name = "x" },
		func(s *api.Simple) { s.Op = api.OpIn },
		func(s *api.Simple) { s.Value = "x" },
		func(s *api.Simple) { s.Fold = true },
		func(s *api.Simple) { s.List = lone(tag("x")) },
		func(s *api.Simple) { s.A = 1 },
		func(s *api.Simple) { s.B = -1 },
	}
	used := map[int][]int{api.STag: {0}, api.SClass: {0}, api.SId: {0}, api.SAttr: {0, 1, 2, 3}, api.SNot: {4}, api.SIs: {4}, api.SWhere: {4}, api.SNth: {5, 6}, api.SLastOf: {5, 6}}
	for _, s := range all() {
		for i, change := range fields {
			changed := s
			change(&changed)
			named := false
			for _, u := range used[s.Kind] {
				named = named || u == i
			}
			// Of an attribute without a value, the value and Fold are barred by a sentence of their own.
			if s.Kind == api.SAttr && s.Op == api.OpHas && (i == 2 || i == 3) {
				named = false
			}
			may(t, []any{s, i}, lone(changed), named)
			may(t, []any{s, i}, lone(of(api.SIs, side(changed))), named)
		}
		empty := s
		if len(s.List) == 0 {
			empty.List = []api.Complex{}
		}
		may(t, s, lone(empty), true)
	}
}

// P9.2: names and values.
func TestMayTexts(t *testing.T) {
	for _, s := range bad {
		for i, one := range []api.Simple{tag(s), class(s), id(s), attr(s, api.OpHas, "", false), attr(s, api.OpIs, "v", false)} {
			may(t, []any{s, i}, lone(one), false)
		}
		for op := api.OpIs; op <= api.OpIn; op++ {
			may(t, s, lone(attr("a", op, s, true)), s == "")
		}
	}
	for _, s := range good {
		for _, one := range []api.Simple{tag(s), class(s), id(s), attr(s, api.OpHas, "", false), attr(s, api.OpWord, s, true), attr("a", api.OpIs, s+s, false)} {
			may(t, s, lone(one), true)
			again(t, s, lone(one))
			again(t, s, []api.Complex{row(with(api.CNone, one), with(api.CDown, one, class(s), id(s)), with(api.CLater, one)), side(one)})
			again(t, s, lone(one, of(api.SNot, side(one), side(one))))
		}
	}
}

// P9.2: operators, and what goes with OpHas.
func TestMayAttributes(t *testing.T) {
	for _, op := range []int{-1, 7, 8, 1 << 32, math.MaxInt, math.MinInt} {
		may(t, op, lone(attr("a", op, "b", false)), false)
		may(t, op, lone(attr("a", op, "", false)), false)
	}
	may(t, "a value", lone(attr("a", api.OpHas, "b", false)), false)
	may(t, "Fold", lone(attr("a", api.OpHas, "", true)), false)
	may(t, "neither", lone(attr("a", api.OpHas, "", false)), true)
}

// P9.2: steps.
func TestMaySteps(t *testing.T) {
	for _, n := range []int{0, 1, -1, api.MaxStep, -api.MaxStep, api.MaxStep + 1, -api.MaxStep - 1, 1 << 31, 1 << 32, math.MaxInt, math.MinInt} {
		is := n >= -1<<30 && n <= 1<<30
		for _, s := range []api.Simple{nth(n, 0), nth(0, n), nth(n, n), nth(1, n), nthLast(n, 0), nthLast(0, n), nthLast(n, -1), nthLast(2, n)} {
			may(t, s, lone(s), is)
			if is {
				again(t, s, lone(s))
			}
		}
	}
}

// P9.3: the texts, letter by letter.
func TestText(t *testing.T) {
	for want, l := range map[string][]api.Complex{
		"*": lone(word(api.SAny)), "a": lone(tag("a")), "\\31 x": lone(tag("1x")), ".a": lone(class("a")), ".\\-": lone(class("-")), "#a": lone(id("a")), "#\\31 ": lone(id("1")), "#a\\ b": lone(id("a b")), ".\\feff ": lone(class("\ufeff")),
		"[a]": lone(attr("a", api.OpHas, "", false)), "[\\.]": lone(attr(".", api.OpHas, "", false)),
		`[a="b"]`: lone(attr("a", api.OpIs, "b", false)), `[a~="b"]`: lone(attr("a", api.OpWord, "b", false)), `[a|="b"]`: lone(attr("a", api.OpDash, "b", false)), `[a^="b"]`: lone(attr("a", api.OpBegins, "b", false)), `[a$="b"]`: lone(attr("a", api.OpEnds, "b", false)), `[a*="b"]`: lone(attr("a", api.OpIn, "b", false)),
		`[a="b" i]`: lone(attr("a", api.OpIs, "b", true)), `[a~="" i]`: lone(attr("a", api.OpWord, "", true)), `[a=""]`: lone(attr("a", api.OpIs, "", false)), `[a="\"\\\a "]`: lone(attr("a", api.OpIs, "\"\\\n", false)), `[\31 ="b" i]`: lone(attr("1", api.OpIs, "b", true)),
		":root": lone(word(api.SRoot)), ":empty": lone(word(api.SEmpty)), ":first-child": lone(word(api.SFirst)), ":last-child": lone(word(api.SLast)), ":only-child": lone(word(api.SOnly)),
		":not(a)": lone(of(api.SNot, side(tag("a")))), ":is(a, b c)": lone(of(api.SIs, side(tag("a")), row(with(api.CNone, tag("b")), with(api.CDown, tag("c"))))), ":where(:not(*))": lone(of(api.SWhere, side(of(api.SNot, side(word(api.SAny)))))),
		":nth-child(0)": lone(nth(0, 0)), ":nth-child(7)": lone(nth(0, 7)), ":nth-child(-7)": lone(nth(0, -7)), ":nth-child(1n)": lone(nth(1, 0)), ":nth-child(-1n)": lone(nth(-1, 0)), ":nth-child(2n+1)": lone(nth(2, 1)), ":nth-child(-2n-1)": lone(nth(-2, -1)), ":nth-child(1073741824n-1073741824)": lone(nth(api.MaxStep, -api.MaxStep)), ":nth-child(-1073741824n+1073741824)": lone(nth(-api.MaxStep, api.MaxStep)),
		":nth-last-child(0)": lone(nthLast(0, 0)), ":nth-last-child(-3)": lone(nthLast(0, -3)), ":nth-last-child(3n)": lone(nthLast(3, 0)), ":nth-last-child(1n+4)": lone(nthLast(1, 4)), ":nth-last-child(10n-10)": lone(nthLast(10, -10)),
		"a b > c + d ~ e":          {row(with(api.CNone, tag("a")), with(api.CDown, tag("b")), with(api.CChild, tag("c")), with(api.CNext, tag("d")), with(api.CLater, tag("e")))},
		"a, b, *.c#d":              {side(tag("a")), side(tag("b")), side(word(api.SAny), class("c"), id("d"))},
		"\\31  \\32 .\\33 , \\34 ": {row(with(api.CNone, tag("1")), with(api.CDown, tag("2"), class("3"))), side(tag("4"))},
		"a:root[b]:is(c).d":        lone(tag("a"), word(api.SRoot), attr("b", api.OpHas, "", false), of(api.SIs, side(tag("c"))), class("d")),
	} {
		if got, e := Text(l); e != api.OK || got != want {
			t.Errorf("%q %d, not %q", got, e, want)
		}
		again(t, want, l)
	}
}

// P9.6: a list's letters are kept as they stand; only the grammar's own words are read by letters alike.
func TestLettersStay(t *testing.T) {
	got, e := Parse(values(`A.B#C[D="E" I]:IS(F):NOT(G):WHERE(H):NTH-CHILD(ODD)`))
	want := lone(tag("A"), class("B"), id("C"), attr("D", api.OpIs, "E", true), of(api.SIs, side(tag("F"))), of(api.SNot, side(tag("G"))), of(api.SWhere, side(tag("H"))), nth(2, 1))
	if e != api.OK || !reflect.DeepEqual(got, want) {
		t.Errorf("%+v %d", got, e)
	}
	if text, e := Text(got); e != api.OK || text != `A.B#C[D="E" i]:is(F):not(G):where(H):nth-child(2n+1)` {
		t.Errorf("%q %d", text, e)
	}
}
