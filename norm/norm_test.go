package norm

import (
	"math"
	"reflect"
	"testing"

	"jalousie/api"
	"jalousie/calc"
	"jalousie/rat"
	"jalousie/rule"
	"jalousie/tok"
)

var over = api.Rat{}

// wrong: fractions that may not be.
var wrong = []api.Rat{{Num: 2, Den: 4}, {Num: 1}, {Num: -1}, {Num: 0, Den: 2}, {Num: 1, Den: -1}, {Num: -3, Den: -3}, {Num: math.MinInt64, Den: 1}, {Num: math.MinInt64}, {Num: 5, Den: math.MinInt64}}

func whole(n int64) api.Rat { return api.Rat{Num: n, Den: 1} }

func frac(n, d int64) api.Rat { return api.Rat{Num: n, Den: d} }

func num(n int64) api.Expr { return api.Expr{Kind: api.ENum, Num: whole(n)} }

func length(r api.Rat, u int) api.Expr { return api.Expr{Kind: api.ENum, Num: r, Unit: u} }

func px(n int64) api.Expr { return length(whole(n), api.UPx) }

// of: an expression of this kind with these kids.
func of(kind int, kids ...api.Expr) api.Expr { return api.Expr{Kind: kind, Kids: kids} }

func expr(t *testing.T, s string) api.Expr {
	t.Helper()
	e, why := calc.Parse(rule.Values(tok.Bytes([]byte(s))))
	if why != api.OK {
		t.Fatalf("%q: %d", s, why)
	}
	return e
}

// units: a form of so much of each unit, from px on, and nothing of the rest.
func units(l ...api.Rat) api.Form {
	var f api.Form
	for i := range f.Units {
		f.Units[i] = whole(0)
	}
	copy(f.Units[:], l)
	return f
}

// all: a form of as much of each unit.
func all(r api.Rat) api.Form { return units(r, r, r, r, r, r, r) }

// with: a form with these parts, too.
func with(f api.Form, parts ...api.Part) api.Form {
	f.Parts = append(append([]api.Part(nil), f.Parts...), parts...)
	return f
}

func least(l ...api.Form) api.Part { return api.Part{Args: l} }

func most(l ...api.Form) api.Part { return api.Part{Max: true, Args: l} }

func is(t *testing.T, what any, got, want api.Form) {
	t.Helper()
	if !reflect.DeepEqual(got, want) {
		t.Errorf("%v: %+v, not %+v", what, got, want)
	}
}

// told: Form of e tells this.
func told(t *testing.T, what any, e api.Expr, want api.Form) {
	t.Helper()
	got, why := Form(e)
	if why != api.OK {
		t.Errorf("%v: %d", what, why)
	}
	is(t, what, got, want)
}

// counts: Number of e tells this.
func counts(t *testing.T, what any, e api.Expr, want api.Rat) {
	t.Helper()
	if got, why := Number(e); got != want || why != api.OK {
		t.Errorf("%v: %v %d, not %v", what, got, why, want)
	}
}

// refused: neither a number nor a form, by these errors.
func refused(t *testing.T, what any, e api.Expr, number, form api.Errno) {
	t.Helper()
	if r, why := Number(e); r != (api.Rat{}) || why != number {
		t.Errorf("%v: number %v %d", what, r, why)
	}
	f, why := Form(e)
	if why != form {
		t.Errorf("%v: form %d", what, why)
	}
	is(t, what, f, api.Form{})
}

// The chapter's table.
func TestExamples(t *testing.T) {
	for s, want := range map[string]api.Form{
		"calc(1px + 2em + 3px)":       units(whole(4), whole(2)),
		"calc((1px + 2em) * -1 * .5)": units(frac(-1, 2), whole(-1)),
		"min(1px, 2px)":               units(whole(1)),
		"max(1em, 2em)":               units(whole(0), whole(2)),
		"min(1px, 0px)":               units(),
		"calc(min(1px, 1em) * -2)":    with(units(), most(units(whole(-2)), units(whole(0), whole(-2)))),
		"calc(min(1px, 1em) + 1px)":   with(units(whole(1)), least(units(whole(1)), units(whole(0), whole(1)))),
		"calc(0 * min(1px, 1em))":     units(),
		"clamp(1px, 5px, 3px)":        units(whole(3)),
		"calc(1px / 0)":               all(over),
	} {
		told(t, s, expr(t, s), want)
	}
}

// P12.1: each kind of expression.
func TestNumber(t *testing.T) {
	third := api.Expr{Kind: api.ENum, Num: frac(1, 3)}
	counts(t, "number", num(-7), whole(-7))
	counts(t, "over", api.Expr{Kind: api.ENum}, over)
	counts(t, "sum", of(api.ESum, num(1), third, num(-5)), frac(-11, 3))
	counts(t, "sum of one", of(api.ESum, third), frac(1, 3))
	counts(t, "neg", of(api.ENeg, third), frac(-1, 3))
	counts(t, "neg", of(api.ENeg, of(api.ENeg, num(2))), whole(2))
	counts(t, "neg of 0", of(api.ENeg, num(0)), whole(0))
	counts(t, "product", of(api.EProd, num(6), third, num(-5)), whole(-10))
	counts(t, "product of one", of(api.EProd, num(6)), whole(6))
	counts(t, "inv", of(api.EInv, num(-4)), frac(-1, 4))
	counts(t, "inv", of(api.EInv, third), whole(3))
	counts(t, "inv of 0", of(api.EInv, num(0)), over)
	counts(t, "inv of over", of(api.EInv, of(api.EInv, num(0))), over)
	counts(t, "least", of(api.EMin, num(3), third, num(2)), frac(1, 3))
	counts(t, "most", of(api.EMax, third, num(3), num(2)), whole(3))
	counts(t, "least of one", of(api.EMin, num(3)), whole(3))
	counts(t, "most of one", of(api.EMax, num(3)), whole(3))
	for s, want := range map[string]api.Rat{"clamp(1, 2, 3)": whole(2), "clamp(1, 5, 3)": whole(3), "clamp(1, 0, 3)": whole(1), "clamp(4, 2, 3)": whole(4), "clamp(4, 9, 3)": whole(4), "clamp(3, 1, 2)": whole(3), "calc(1 / 3 + 2 * 4)": frac(25, 3), "calc(1 - 2 - 3)": whole(-4), "calc(12 / 2 / 3)": whole(2), "min(1, calc(2 - 4), 0)": whole(-2), "calc(max(1, 2) * min(3, 4))": whole(6), "calc(2 / (1 - 1))": over, "calc(0 / 0)": over} {
		counts(t, s, expr(t, s), want)
	}
}

// P12.1: what is over stays over, wherever it stands; and what is over on the way.
func TestNumberOver(t *testing.T) {
	o, a, b := api.Expr{Kind: api.ENum}, num(1), num(0)
	for _, kind := range []int{api.ESum, api.EProd, api.EMin, api.EMax} {
		counts(t, kind, of(kind, o), over)
		counts(t, kind, of(kind, o, b), over)
		counts(t, kind, of(kind, b, a, o), over)
	}
	counts(t, "neg", of(api.ENeg, o), over)
	counts(t, "inv", of(api.EInv, o), over)
	counts(t, "clamp", of(api.EClamp, o, a, b), over)
	counts(t, "clamp", of(api.EClamp, a, o, b), over)
	counts(t, "clamp", of(api.EClamp, a, b, o), over)
	big, half := num(1<<62), api.Expr{Kind: api.ENum, Num: frac(1, 4)}
	counts(t, "on the way", of(api.EProd, big, num(2), half), over)
	counts(t, "not on the way", of(api.EProd, big, half, num(2)), whole(1<<61))
	counts(t, "on the way", of(api.ESum, big, big, of(api.ENeg, big)), over)
	counts(t, "not on the way", of(api.ESum, big, of(api.ENeg, big), big), whole(1<<62))
}

// P12.1, P12.2: errors of calc.Kind, and the other kind.
func TestRefused(t *testing.T) {
	for what, e := range map[string]api.Expr{
		"zero": {}, "no kind": of(9, num(1)), "no kids": of(api.ESum), "within": of(api.EMin, num(1), of(api.EClamp, num(1))), "a fraction": {Kind: api.ENum, Num: frac(2, 4)}, "a unit": length(whole(1), 8), "below": length(whole(1), -1), "Num of a sum": {Kind: api.ESum, Num: whole(1), Kids: []api.Expr{num(1)}}, "both": of(api.ESum, num(1), px(1), api.Expr{}),
	} {
		refused(t, what, e, api.ErrArg, api.ErrArg)
	}
	for _, s := range []string{"calc(1px * 2px)", "calc(1 / 2px)", "calc(1 + 1px)", "min(1, 1px)", "clamp(1px, 2, 3px)", "calc(2px / 1px)"} {
		refused(t, s, expr(t, s), api.ErrType, api.ErrType)
	}
	for _, s := range []string{"1", "calc(1 + 2)", "calc(1 / 0)", "min(1, 2)", "clamp(1, 2, 3)", "1e99"} {
		if _, why := Number(expr(t, s)); why != api.OK {
			t.Errorf("%q: %d", s, why)
		}
		f, why := Form(expr(t, s))
		if why != api.ErrType {
			t.Errorf("%q: %d", s, why)
		}
		is(t, s, f, api.Form{})
	}
	for _, s := range []string{"1px", "0cqh", "calc(1px + 2em)", "calc(1px / 0)", "min(1px)", "calc(2 * 3 * 4rem)", "1e99vw"} {
		if _, why := Form(expr(t, s)); why != api.OK {
			t.Errorf("%q: %d", s, why)
		}
		if r, why := Number(expr(t, s)); why != api.ErrType || r != (api.Rat{}) {
			t.Errorf("%q: %v %d", s, r, why)
		}
	}
}

// nest: n expressions in one another, the innermost this, the others of the kind.
func nest(n, kind int, e api.Expr) api.Expr {
	for range n - 1 {
		if kind == api.EClamp {
			e = of(kind, num(1), e, num(3))
			continue
		}
		e = of(kind, e)
	}
	return e
}

// P12.1, P12.2: 340 expressions in one another, and 341.
func TestExprDepth(t *testing.T) {
	for kind := api.ESum; kind <= api.EMax; kind++ {
		if kind == api.EInv {
			continue
		}
		want := whole(2)
		if kind == api.ENeg {
			want = whole(-2)
		}
		counts(t, kind, nest(340, kind, num(2)), want)
		refused(t, kind, nest(341, kind, num(2)), api.ErrArg, api.ErrArg)
		told(t, kind, nest(340, kind, px(2)), units(want))
		refused(t, kind, nest(341, kind, px(2)), api.ErrArg, api.ErrArg)
	}
	counts(t, "inv", nest(340, api.EInv, num(2)), frac(1, 2))
	refused(t, "inv", nest(341, api.EInv, num(2)), api.ErrArg, api.ErrArg)
	counts(t, "clamp", nest(340, api.EClamp, num(2)), whole(2))
	refused(t, "clamp", nest(341, api.EClamp, num(2)), api.ErrArg, api.ErrArg)
}

// P12.2: each kind of expression.
func TestForm(t *testing.T) {
	for u := api.UPx; u <= api.UCqh; u++ {
		for _, r := range []api.Rat{whole(0), whole(5), frac(-3, 7), over} {
			want := units()
			want.Units[u-1] = r
			told(t, u, length(r, u), want)
			for _, kind := range []int{api.ESum, api.EProd, api.EMin, api.EMax} {
				told(t, []int{u, kind}, of(kind, length(r, u)), want)
			}
			want.Units[u-1] = rat.Neg(r)
			told(t, u, of(api.ENeg, length(r, u)), want)
		}
	}
	px1, em1 := units(whole(1)), units(whole(0), whole(1))
	for s, want := range map[string]api.Form{
		"calc(1px - 1px)": units(),
		"calc(1px + 2em + 3rem + 4vw + 5vh + 6cqw + 7cqh)": units(whole(1), whole(2), whole(3), whole(4), whole(5), whole(6), whole(7)),
		"calc(1px - (2em - 3px))":                          units(whole(4), whole(-2)),
		"calc(2 * 3px * 4)":                                units(whole(24)),
		"calc(2 * 3 * 4px)":                                units(whole(24)),
		"calc(4px / 2 / 3)":                                units(frac(2, 3)),
		"calc((1 + 1) * (1px + 1em) / (1 + 2))":            units(frac(2, 3), frac(2, 3)),
		"calc(2 * (3 * (4 * 5px)))":                        units(whole(120)),
		"calc(2 * max(1px, 2px) * 3)":                      units(whole(12)),
		"calc(2px - min(1px, 1em))":                        with(units(whole(2)), most(units(whole(-1)), units(whole(0), whole(-1)))),
		"calc(min(1px, 1em) + max(1em, 1px))":              with(units(), least(px1, em1), most(em1, px1)),
		"calc(max(1px, 1em) - max(1em, 1px))":              with(units(), most(px1, em1), least(units(whole(0), whole(-1)), units(whole(-1)))),
		"min(1px, 2px, -3px)":                              units(whole(-3)),
		"min(1px + 1em, 2px)":                              with(units(), least(units(whole(1), whole(1)), units(whole(2)))),
		"max(1px, 1em, 1px)":                               with(units(), most(px1, em1, px1)),
		"min(max(1px, 1em))":                               with(units(), most(px1, em1)),
		"min(max(1px, 1em), 1px)":                          with(units(), least(with(units(), most(px1, em1)), px1)),
		"clamp(1px, 2px, 3px)":                             units(whole(2)),
		"clamp(4px, 2px, 3px)":                             units(whole(4)),
		"clamp(1px, 1em, 1px)":                             with(units(), most(px1, with(units(), least(em1, px1)))),
		"clamp(1em, 1px, 2px)":                             with(units(), most(em1, px1)),
		"clamp(1px, 1px, 1em)":                             with(units(), most(px1, with(units(), least(px1, em1)))),
		"min(0px, 0em)":                                    units(),
		"max(0px, 1em)":                                    em1,
		"max(0px, -1em, 0vw)":                              units(),
		"min(0px, 0em, -1rem)":                             units(whole(0), whole(0), whole(-1)),
	} {
		told(t, s, expr(t, s), want)
	}
}

// P12.2: what is over: of a unit, in sums and picks; of all units, where a factor is.
func TestFormOver(t *testing.T) {
	overPx := units(over)
	for s, want := range map[string]api.Form{
		"calc(1e99px + 1px)":            overPx,
		"calc(1em + 1e99px)":            units(over, whole(1)),
		"min(1e99px, 1px)":              overPx,
		"max(1px, 0px, 1e99px)":         overPx,
		"max(1e99px, 1em)":              with(units(), most(overPx, units(whole(0), whole(1)))),
		"calc(1e99px * 0)":              overPx,
		"calc(1e99 * 0px)":              all(over),
		"calc(0px / 0)":                 all(over),
		"calc(0 * 1e99 * 1px)":          all(over),
		"calc(1px + 1e99 * 1px)":        all(over),
		"calc(1px - 1e99px)":            overPx,
		"calc(min(1px, 1em) * 1e99)":    with(all(over), least(all(over), all(over))),
		"calc(max(1px, 1em) * -1e99)":   with(all(over), most(all(over), all(over))),
		"calc(max(1px, 1em) / 0 * -1)":  with(all(over), most(all(over), all(over))),
		"calc(-1 * (max(1px, 1em)/ 0))": with(all(over), least(all(over), all(over))),
	} {
		told(t, s, expr(t, s), want)
	}
	big, quarter := int64(1<<62), api.Expr{Kind: api.ENum, Num: frac(1, 4)}
	told(t, "over on the way", of(api.EProd, num(big), px(0), num(2), quarter), all(over))
	told(t, "not on the way", of(api.EProd, num(big), px(5), quarter, num(2)), overPx)
	told(t, "not on the way", of(api.EProd, num(big), px(2), quarter), units(whole(1<<61)))
	told(t, "over on the way", of(api.ESum, px(big), px(big), px(-big)), overPx)
	told(t, "not on the way", of(api.ESum, px(big), px(-big), px(big)), units(whole(big)))
}

// P12.3: Zero and One.
func TestZeroOne(t *testing.T) {
	is(t, "zero", Zero(), all(whole(0)))
	for u := api.UPx; u <= api.UCqh; u++ {
		for _, r := range []api.Rat{whole(1), whole(0), frac(-5, 3), frac(math.MaxInt64, 2), over} {
			want := units()
			want.Units[u-1] = r
			is(t, u, One(u, r), want)
		}
		for _, r := range wrong {
			want := units()
			want.Units[u-1] = over
			is(t, r, One(u, r), want)
		}
	}
	for _, u := range []int{api.UNone, -1, 8, 9, math.MaxInt, math.MinInt, 1 << 32, 1<<32 + 1} {
		is(t, u, One(u, whole(1)), units())
		is(t, u, One(u, over), units())
		is(t, u, One(u, frac(2, 4)), units())
	}
}

// notMay: forms that may not be.
func notMay() []api.Form {
	deep := units(whole(1))
	for range 340 {
		deep = with(units(), least(deep))
	}
	l := []api.Form{with(units(), api.Part{}), with(units(), most()), with(units(), least(units()), least()), with(units(), least(units(), with(units(), most()))), deep}
	for i := range 7 {
		for _, r := range wrong {
			f := units(whole(1))
			f.Units[i] = r
			l = append(l, f, with(units(), least(units(), f)), with(units(), least(units()), most(with(units(), most(f)))))
		}
	}
	return l
}

// P12.3, P12.4: of forms that may not be: Zero; 0.
func TestMayNotBe(t *testing.T) {
	a, b := units(whole(1)), with(units(), most(units(whole(1)), units(whole(0), whole(1))))
	for i, f := range notMay() {
		if May(f) {
			t.Error(i, "may")
		}
		if Uses(f) != 0 {
			t.Error(i, Uses(f))
		}
		for _, l := range [][]api.Form{{f}, {f, a}, {a, f}, {a, b, f}, {b, f, a}, {f, f}} {
			is(t, i, Add(l...), units())
			is(t, i, Pick(true, l...), units())
			is(t, i, Pick(false, l...), units())
		}
		for _, k := range []api.Rat{whole(1), whole(-1), over, frac(2, 4)} {
			is(t, i, Scale(f, k), units())
		}
	}
}

// P12.3: Add.
func TestAdd(t *testing.T) {
	a, b := units(whole(2), frac(1, 2)), units(frac(1, 3), frac(-1, 2), whole(7))
	p, q := least(a, b), most(b)
	is(t, "none", Add(), units())
	is(t, "none", Add([]api.Form{}...), units())
	is(t, "one", Add(a), a)
	is(t, "one", Add(with(a, p, q)), with(a, p, q))
	is(t, "two", Add(a, b), units(frac(7, 3), whole(0), whole(7)))
	is(t, "three", Add(a, b, a), units(frac(13, 3), frac(1, 2), whole(7)))
	is(t, "parts", Add(with(a, p), b, with(b, q, p)), with(units(frac(8, 3), frac(-1, 2), whole(14)), p, q, p))
	is(t, "parts", Add(with(b, q, p), with(a, p)), with(units(frac(7, 3), whole(0), whole(7)), q, p, p))
	is(t, "over", Add(a, all(over), a), all(over))
	is(t, "over", Add(a, units(over)), units(over, frac(1, 2)))
	is(t, "zero value", Add(api.Form{}), all(over))
	big := whole(math.MaxInt64)
	is(t, "on the way", Add(units(big), units(whole(1)), units(whole(-1))), units(over))
	is(t, "not on the way", Add(units(big), units(whole(-1)), units(whole(1))), units(big))
	is(t, "each unit", Add(units(whole(1), whole(2), whole(3), whole(4), whole(5), whole(6), whole(7)), all(whole(1))), units(whole(2), whole(3), whole(4), whole(5), whole(6), whole(7), whole(8)))
}

// P12.3: Pick.
func TestPick(t *testing.T) {
	both := func(what any, l []api.Form, low, high api.Form) {
		t.Helper()
		is(t, what, Pick(false, l...), low)
		is(t, what, Pick(true, l...), high)
	}
	parted := func(what any, l ...api.Form) {
		t.Helper()
		both(what, l, with(units(), least(l...)), with(units(), most(l...)))
	}
	a, b := units(whole(1)), units(whole(0), whole(1))
	mixed := with(units(whole(1), whole(2)), least(a))
	both("none", nil, units(), units())
	both("none", []api.Form{}, units(), units())
	for _, f := range []api.Form{units(), a, b, mixed, all(over), with(units(), least(units()))} {
		both("one", []api.Form{f}, f, f)
	}
	both("one unit", []api.Form{units(whole(3)), units(frac(-1, 2)), units(whole(7)), units()}, units(frac(-1, 2)), units(whole(7)))
	both("nothing", []api.Form{units(), units()}, units(), units())
	both("nothing", []api.Form{units(), units(), units()}, units(), units())
	both("nothing and one", []api.Form{units(), b, units()}, units(), b)
	both("over", []api.Form{units(), units(over)}, units(over), units(over))
	both("over", []api.Form{units(over), units(whole(1)), units(over)}, units(over), units(over))
	for u := api.UPx; u <= api.UCqh; u++ {
		both(u, []api.Form{One(u, whole(2)), One(u, whole(1)), Zero(), One(u, whole(3))}, Zero(), One(u, whole(3)))
		for v := u + 1; v <= api.UCqh; v++ {
			parted([]int{u, v}, One(u, whole(1)), One(v, whole(1)))
			parted([]int{u, v}, One(u, over), One(v, over))
			parted([]int{u, v}, One(v, whole(1)), Zero(), One(u, whole(1)))
			parted([]int{u, v}, One(u, whole(1)), Add(One(v, whole(1)), One(u, whole(1))))
			parted([]int{u, v}, Add(One(v, whole(1)), One(u, whole(1))), Zero())
		}
	}
	parted("same twice", all(whole(1)), all(whole(1)))
	parted("over", all(over), all(over))
	parted("a part", mixed, a)
	parted("a part", a, mixed)
	parted("a part of nothing", with(units(), least(units())), units())
	parted("a part of nothing", a, a, with(units(), most(units())))
	parted("zero values", api.Form{}, api.Form{})
}

// P12.3: Scale.
func TestScale(t *testing.T) {
	a, b := units(whole(2)), units(whole(0), whole(-3))
	ka, kb := func(k int64) api.Form { return units(whole(2 * k)) }, func(k int64) api.Form { return units(whole(0), whole(-3*k)) }
	plain := units(whole(1), whole(0), frac(2, 3), whole(-4))
	is(t, "1", Scale(plain, whole(1)), plain)
	is(t, "0", Scale(plain, whole(0)), units())
	is(t, "-1", Scale(plain, whole(-1)), units(whole(-1), whole(0), frac(-2, 3), whole(4)))
	is(t, "3/2", Scale(plain, frac(3, 2)), units(frac(3, 2), whole(0), whole(1), whole(-6)))
	is(t, "over", Scale(plain, over), all(over))
	is(t, "too great", Scale(plain, whole(math.MaxInt64)), units(whole(math.MaxInt64), whole(0), over, over))
	is(t, "over of nothing", Scale(units(), over), all(over))
	is(t, "over times 0", Scale(units(over), whole(0)), units(over))
	for _, high := range []bool{false, true} {
		f := with(units(whole(1)), api.Part{Max: high, Args: []api.Form{a, b}})
		is(t, high, Scale(f, whole(1)), f)
		is(t, high, Scale(f, whole(5)), with(units(whole(5)), api.Part{Max: high, Args: []api.Form{ka(5), kb(5)}}))
		is(t, high, Scale(f, whole(-5)), with(units(whole(-5)), api.Part{Max: !high, Args: []api.Form{ka(-5), kb(-5)}}))
		is(t, high, Scale(f, whole(0)), units())
		is(t, high, Scale(f, over), with(all(over), api.Part{Max: high, Args: []api.Form{all(over), all(over)}}))
		for _, k := range wrong {
			is(t, k, Scale(f, k), Scale(f, over))
		}
		deep := with(f, api.Part{Max: true, Args: []api.Form{f, a}}, api.Part{Args: []api.Form{b, f}})
		g := Scale(f, whole(-2))
		is(t, high, Scale(deep, whole(-2)), with(g, api.Part{Args: []api.Form{g, ka(-2)}}, api.Part{Max: true, Args: []api.Form{kb(-2), g}}))
		is(t, high, Scale(deep, whole(0)), units())
	}
}

// P12.3: parts that Form never tells: of one form, of forms of one unit; they go into the sum.
func TestScaleLoose(t *testing.T) {
	one, two := units(whole(1)), units(whole(2))
	for _, k := range []int64{1, 3, -2} {
		want := func(n int64) api.Form { return units(whole(n * k)) }
		is(t, k, Scale(with(one, least(two)), whole(k)), want(3))
		is(t, k, Scale(with(one, most(two)), whole(k)), want(3))
		is(t, k, Scale(with(one, least(one, two)), whole(k)), want(2))
		is(t, k, Scale(with(one, most(one, two)), whole(k)), want(3))
		is(t, k, Scale(with(one, most(one, two), least(two), least(units())), whole(k)), want(5))
		is(t, k, Scale(with(one, most(with(one, least(two)))), whole(k)), want(4))
		is(t, k, Scale(with(one, least(with(one, least(two)), one)), whole(k)), want(2))
	}
	em := units(whole(0), whole(1))
	inner := most(one, em)
	is(t, "out of a part of one", Scale(with(one, least(with(two, inner)), least(one, em)), whole(1)), with(units(whole(3)), inner, least(one, em)))
	is(t, "nothing", Scale(with(one, least(with(units(), least(units(), units())), units())), whole(1)), one)
	big := units(whole(math.MaxInt64))
	is(t, "on the way", Scale(with(big, least(one), least(units(whole(-1)))), whole(1)), units(over))
	is(t, "not on the way", Scale(with(big, least(units(whole(-1))), least(one)), whole(1)), big)
}

// nestForm: n forms in one another.
func nestForm(n int, f api.Form) api.Form {
	for range n - 1 {
		f = with(units(), least(units(whole(1)), f))
	}
	return f
}

// P12.4: May; 340 forms in one another, and 341.
func TestMay(t *testing.T) {
	for i, f := range []api.Form{{}, units(), units(over), all(over), all(whole(7)), units(frac(math.MaxInt64, math.MaxInt64-1), frac(-math.MaxInt64, 1)), with(units(), least(units())), with(units(), most(units(), units(over)), least(all(over))), {Parts: []api.Part{}}, {Parts: []api.Part{{Args: []api.Form{{}}}}}} {
		if !May(f) {
			t.Error(i)
		}
	}
	em := units(whole(0), whole(1))
	for n := 336; n <= 345; n++ {
		f := nestForm(n, em)
		if May(f) != (n <= 340) {
			t.Error(n)
		}
		if May(with(units(), least(em), most(em, f, em))) != (n < 340) {
			t.Error(n)
		}
		if (Uses(f) == 1<<api.UPx+1<<api.UEm) != (n <= 340) {
			t.Error(n, Uses(f))
		}
		want, half := units(), units()
		if n <= 340 {
			want, half = f, Scale(Scale(f, whole(2)), frac(1, 2))
		}
		is(t, n, Add(f), want)
		is(t, n, Add(f, units()), want)
		is(t, n, Pick(true, f), want)
		is(t, n, Scale(f, whole(1)), want)
		is(t, n, half, want)
	}
}

// P12.3: a pick of forms as deep as may be is as the words say, though it may not be.
func TestPickDeep(t *testing.T) {
	f := nestForm(340, units(whole(2)))
	got := Pick(true, f, f)
	is(t, "pick", got, with(units(), most(f, f)))
	if May(got) {
		t.Error("may")
	}
}

// P12.2: forms deeper than may be, on the way and at the end: a clamp has a part in a part.
func TestFormDeep(t *testing.T) {
	em, depth := length(whole(1), api.UEm), 0
	e, want := em, units(whole(0), whole(1))
	for depth < 300 {
		e = of(api.EClamp, px(1), e, px(2))
		want = with(units(), most(units(whole(1)), with(units(), least(want, units(whole(2))))))
		depth++
	}
	told(t, "clamps", e, want)
	told(t, "clamps turned twice", of(api.ENeg, of(api.ENeg, e)), want)
	told(t, "clamps scaled", of(api.EProd, num(1), e), want)
	told(t, "clamps in a sum", of(api.ESum, e, em, e), with(units(whole(0), whole(1)), want.Parts[0], want.Parts[0]))
	told(t, "clamps in a pick", of(api.EMin, e, em), with(units(), least(want, units(whole(0), whole(1)))))
	told(t, "clamps times 0", of(api.EProd, e, num(0)), units())
	f, _ := Form(e)
	if May(f) || Uses(f) != 0 || !Same(f, want) {
		t.Error(May(f), Uses(f), Same(f, want))
	}
	for range 131 {
		e = e.Kids[1]
	}
	// 169 clamps: 339 forms in one another.
	f, _ = Form(of(api.EMin, e, em))
	if !May(f) || Uses(f) != 6 {
		t.Error(May(f), Uses(f))
	}
	f, _ = Form(of(api.EMin, of(api.EMax, e, em), em))
	if May(f) {
		t.Error("341")
	}
}

// P12.4: Same, field by field.
func TestSame(t *testing.T) {
	a, b := units(whole(1)), units(whole(0), whole(1))
	l := []api.Form{
		{}, units(), a, b, all(whole(1)), units(frac(1, 2)), units(frac(2, 4)), units(frac(2, 1)), units(frac(-2, 1)),
		with(units(), api.Part{}), with(units(), most()), with(units(), least(a)), with(units(), least(b)), with(units(), most(a)), with(units(), least(a, a)), with(units(), least(a, b)), with(units(), least(b, a)), with(units(), least(a), least(a)), with(units(), least(a), most(a)), with(units(), most(a), least(a)), with(units(), least(a), least(b)), with(a, least(a, b)),
		with(units(), least(with(units(), least(a)))), with(units(), least(with(units(), most(a)))), with(units(), least(with(units(), least(a)), a)), with(units(), least(a, with(units(), least(a)))),
	}
	for u := range 7 {
		f := all(whole(1))
		f.Units[u] = whole(2)
		l = append(l, f, with(units(), least(f)))
	}
	for i, x := range l {
		for j, y := range l {
			if got := Same(x, y); got != (i == j) {
				t.Error(i, j, got)
			}
			if got := Same(x, clone(y)); got != (i == j) {
				t.Error(i, j, got)
			}
		}
	}
	if !Same(api.Form{Parts: []api.Part{}}, api.Form{}) || !Same(with(a, api.Part{Args: []api.Form{}}), with(a, api.Part{})) {
		t.Error("nil and empty")
	}
}

// P12.4: Uses, of each unit, of over, and at whatever depth.
func TestUses(t *testing.T) {
	for u := api.UPx; u <= api.UCqh; u++ {
		for _, r := range []api.Rat{whole(1), whole(-1), frac(1, 9), over} {
			f := One(u, r)
			if Uses(f) != 1<<u {
				t.Error(u, r, Uses(f))
			}
			for _, g := range []api.Form{with(units(), least(f)), with(units(), most(units(), f, units())), with(units(), least(units()), least(units(), f)), nestForm(340, f)} {
				if Uses(g)&^(1<<api.UPx) != 1<<u&^(1<<api.UPx) || Uses(g)&(1<<u) == 0 {
					t.Error(u, r, Uses(g))
				}
			}
		}
		if Uses(One(u, whole(0))) != 0 {
			t.Error(u)
		}
	}
	f := with(units(whole(1)), least(One(api.UEm, whole(1)), with(One(api.UVw, over), most(One(api.UCqh, whole(2)), One(api.UEm, whole(3))))), most(One(api.URem, whole(1))))
	if want := 1<<api.UPx + 1<<api.UEm + 1<<api.UVw + 1<<api.UCqh + 1<<api.URem; Uses(f) != want {
		t.Error(Uses(f), want)
	}
	if Uses(api.Form{}) != 254 || Uses(all(whole(1))) != 254 || Uses(Zero()) != 0 || Uses(with(units(), least(units()))) != 0 {
		t.Error("all or none")
	}
}
