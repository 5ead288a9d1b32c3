package sel

import (
	"math"
	"testing"

	"jalousie/api"
)

// P9.4: each kind of simple selector.
func TestWeighKinds(t *testing.T) {
	for _, s := range all() {
		want := api.Weight{0, 1, 0}
		switch s.Kind {
		case api.SAny, api.SWhere:
			want = api.Weight{}
		case api.STag:
			want = api.Weight{0, 0, 1}
		case api.SId:
			want = api.Weight{1, 0, 0}
		case api.SNot, api.SIs:
			want = api.Weight{0, 0, 1}
			if len(s.List) > 1 {
				want = api.Weight{1, 1, 0}
			}
		}
		weighs(t, s, side(s), want)
	}
}

// P9.4: sums, and the greatest of a list: by its first number that differs, wherever it stands in the list.
func TestWeigh(t *testing.T) {
	for s, want := range map[string]api.Weight{
		"a b > c + d ~ e": {0, 0, 5}, "#a#a .b:root[c] d": {2, 3, 1}, "*": {}, "* * *": {},
		":is(a, b c d, .e, .f g)": {0, 1, 1}, ":is(.f g, .e, b c d, a)": {0, 1, 1}, ":is(a, #b, .c.c.c.c d)": {1, 0, 0}, ":not(.a, .b, c)": {0, 1, 0}, ":not(*)": {}, ":is(*, *)": {},
		":where(#a, .b)": {}, "a:where(#a.b)": {0, 0, 1}, ":is(:where(#a), b)": {0, 0, 1}, ":not(:is(#a, b), .c.d)": {1, 0, 0}, ":is(a):not(b):where(c):is(#d, e)": {1, 0, 2}, ":is(:not(:is(#a .b c)))": {1, 1, 1}, ":where(:not(#a))": {},
		":nth-child(2n):nth-last-child(1):empty:first-child:last-child:only-child": {0, 6, 0},
	} {
		l, e := Parse(values(s))
		if e != api.OK {
			t.Errorf("%q: %d", s, e)
			continue
		}
		weighs(t, s, l[0], want)
	}
	// No number runs over into the next one.
	many := make([]api.Simple, 0, 70000)
	for range 70000 {
		many = append(many, class("a"))
	}
	weighs(t, "70000 classes", side(many...), api.Weight{0, 70000, 0})
}

// P9.4: only c is asked; the error stands alone.
func TestWeighWrong(t *testing.T) {
	for i, c := range []api.Complex{{}, side(), side(tag("")), side(id("a"), tag("b")), row(with(api.CDown, id("a"))), side(id("a"), word(99)), side(id("a"), of(api.SIs, api.Complex{}))} {
		if w, e := Weigh(c); e != api.ErrArg || w != (api.Weight{}) {
			t.Errorf("%d: %v %d", i, w, e)
		}
	}
}

// P9.5: Less at each of the three numbers.
func TestLess(t *testing.T) {
	numbers := []int{math.MinInt, -1, 0, 1, math.MaxInt}
	var l []api.Weight
	for _, a := range numbers {
		for _, b := range numbers {
			for _, c := range numbers {
				l = append(l, api.Weight{a, b, c})
			}
		}
	}
	// They stand in rising order: so the places say which is the lesser one.
	for i, a := range l {
		for j, b := range l {
			if Less(a, b) != (i < j) {
				t.Errorf("%v %v: %v", a, b, i >= j)
			}
			if most := Most(a, b); most != l[max(i, j)] {
				t.Errorf("Most of %v %v: %v", a, b, most)
			}
		}
	}
}

// P9.5: Most of none, of one, of many, wherever the greatest stands.
func TestMost(t *testing.T) {
	if Most() != (api.Weight{}) || Most([]api.Weight{}...) != (api.Weight{}) || Most(nil...) != (api.Weight{}) {
		t.Error("of none")
	}
	low := api.Weight{-1, 5, 5}
	if Most(low) != low || Most(low, low) != low || Most(api.Weight{-2, 9, 9}, low, api.Weight{-3, 0, 0}) != low {
		t.Error("below 0")
	}
	l := []api.Weight{{0, 5, 9}, {0, 5, 10}, {0, 4, 99}, {0, 0, 0}, {0, 5, 9}}
	for turn := range l {
		turned := append(append([]api.Weight{}, l[turn:]...), l[:turn]...)
		if Most(turned...) != (api.Weight{0, 5, 10}) {
			t.Errorf("%v", turned)
		}
	}
}

// P9.7: a selector weighs as its compounds together; in :is a list weighs as its greatest, in :where nothing.
func TestWeightsFollow(t *testing.T) {
	l, e := Parse(values("a.b > #c:not(d, .e) ~ *, :is(#a b, c) f + g, :where(#x) :root, [a] [b] c, *"))
	if e != api.OK {
		t.Fatal(e)
	}
	var greatest api.Weight
	for _, c := range l {
		var sum api.Weight
		for _, part := range c.Parts {
			w, e := Weigh(side(part.Simples...))
			if e != api.OK {
				t.Fatal(e)
			}
			for i := range sum {
				sum[i] += w[i]
			}
		}
		weighs(t, c, c, sum)
		if Less(greatest, sum) {
			greatest = sum
		}
	}
	weighs(t, "is", side(of(api.SIs, l...)), greatest)
	weighs(t, "not", side(of(api.SNot, l...)), greatest)
	weighs(t, "where", side(of(api.SWhere, l...)), api.Weight{})
	if greatest != (api.Weight{1, 2, 1}) {
		t.Error(greatest)
	}
}
