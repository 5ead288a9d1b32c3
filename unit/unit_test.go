package unit

import (
	"math"
	"slices"
	"testing"

	"jalousie/api"
	"jalousie/calc"
	"jalousie/norm"
	"jalousie/rat"
	"jalousie/rule"
	"jalousie/tok"
)

var over = api.Rat{}

// wrong: fractions that may not be.
var wrong = []api.Rat{{Num: 2, Den: 4}, {Num: 1}, {Num: -1}, {Num: 0, Den: 2}, {Num: 1, Den: -1}, {Num: -3, Den: -3}, {Num: math.MinInt64, Den: 1}, {Num: math.MinInt64}, {Num: 5, Den: math.MinInt64}}

// usual: the context of the chapter's table.
var usual = api.Ctx{Font: whole(16), Root: whole(10), W: whole(1000), H: whole(600), Cw: whole(300), Ch: whole(200)}

func whole(n int64) api.Rat { return api.Rat{Num: n, Den: 1} }

func frac(n, d int64) api.Rat { return api.Rat{Num: n, Den: d} }

func num(n int64) api.Expr { return api.Expr{Kind: api.ENum, Num: whole(n)} }

func length(r api.Rat, u int) api.Expr { return api.Expr{Kind: api.ENum, Num: r, Unit: u} }

func px(n int64) api.Expr { return length(whole(n), api.UPx) }

func em(n int64) api.Expr { return length(whole(n), api.UEm) }

// of: an expression of this kind with these kids.
func of(kind int, kids ...api.Expr) api.Expr { return api.Expr{Kind: kind, Kids: kids} }

func expr(t *testing.T, s string) api.Expr {
	t.Helper()
	e, why := calc.Parse(rule.Values(tok.Bytes([]byte(s))))
	if why != api.OK {
		t.Fatalf("%q: %d", s, why)
	}
	return e
}

// units: a form of so much of each unit, from px on, and nothing of the rest.
func units(l ...api.Rat) api.Form {
	var f api.Form
	for i := range f.Units {
		f.Units[i] = whole(0)
	}
	copy(f.Units[:], l)
	return f
}

// one: a form of so much of one unit.
func one(u int, r api.Rat) api.Form {
	f := units()
	f.Units[u-1] = r
	return f
}

// with: a form with these parts, too.
func with(f api.Form, parts ...api.Part) api.Form {
	f.Parts = append(append([]api.Part(nil), f.Parts...), parts...)
	return f
}

func least(l ...api.Form) api.Part { return api.Part{Args: l} }

func most(l ...api.Form) api.Part { return api.Part{Max: true, Args: l} }

// set: c with another size of the unit u (of vw and so on: of a hundred of them). px has none.
func set(c api.Ctx, u int, r api.Rat) api.Ctx {
	*[]*api.Rat{api.UEm: &c.Font, api.URem: &c.Root, api.UVw: &c.W, api.UVh: &c.H, api.UCqw: &c.Cw, api.UCqh: &c.Ch}[u] = r
	return c
}

func is(t *testing.T, what any, got, want api.Rat) {
	t.Helper()
	if got != want {
		t.Errorf("%v: %v, not %v", what, got, want)
	}
}

func direct(t *testing.T, what any, e api.Expr, c api.Ctx, want api.Rat) {
	t.Helper()
	if got, why := Direct(e, c); got != want || why != api.OK {
		t.Errorf("%v: directly %v %d, not %v", what, got, why, want)
	}
}

func long(t *testing.T, what any, e api.Expr, c api.Ctx, want api.Rat) {
	t.Helper()
	if got, why := Length(e, c); got != want || why != api.OK {
		t.Errorf("%v: %v %d, not %v", what, got, why, want)
	}
}

// both: Direct and Length tell this.
func both(t *testing.T, what any, e api.Expr, c api.Ctx, want api.Rat) {
	t.Helper()
	direct(t, what, e, c, want)
	long(t, what, e, c, want)
}

// refused: by these errors, and with nothing beside them.
func refused(t *testing.T, what any, e api.Expr, whyDirect, whyLength api.Errno) {
	t.Helper()
	if r, why := Direct(e, usual); r != over || why != whyDirect {
		t.Errorf("%v: directly %v %d", what, r, why)
	}
	if r, why := Length(e, usual); r != over || why != whyLength {
		t.Errorf("%v: %v %d", what, r, why)
	}
}

// The chapter's table.
func TestExamples(t *testing.T) {
	both(t, "sum", expr(t, "calc(1em + 2rem + 5vw + 10vh)"), usual, whole(146))
	both(t, "product", expr(t, "calc(1cqw * 3)"), usual, whole(9))
	both(t, "least", expr(t, "min(1em, 5vw, 20px)"), usual, whole(16))
	e := expr(t, "calc(0 * 1em)")
	long(t, "nothing", e, set(usual, api.UEm, over), whole(0))
	direct(t, "nothing", e, set(usual, api.UEm, over), over)
	both(t, "third", expr(t, "calc(1px / 3)"), usual, frac(1, 3))
	if got := Names(2 + 4 + 256); !slices.Equal(got, []string{"px", "em"}) {
		t.Error(got)
	}
}

// P13.1: each unit, and a u that is none.
func TestSize(t *testing.T) {
	want := [8]api.Rat{over, whole(1), whole(16), whole(10), whole(10), whole(6), whole(3), whole(2)}
	for u, r := range want {
		is(t, u, Size(u, usual), r)
	}
	c := api.Ctx{Font: frac(27, 2), Root: whole(0), W: frac(-7, 3), H: whole(0), Cw: whole(150), Ch: frac(200, 3)}
	for u, r := range [8]api.Rat{over, whole(1), frac(27, 2), whole(0), frac(-7, 300), whole(0), frac(3, 2), frac(2, 3)} {
		is(t, u, Size(u, c), r)
	}
	for _, u := range []int{-1, -2, 8, 9, 64, 1 << 32, 1<<32 + 1, math.MaxInt, math.MinInt, math.MinInt + 1} {
		is(t, u, Size(u, usual), over)
		is(t, u, Size(u, api.Ctx{}), over)
	}
}

// P13.1: each field over, one that may not be, and what is over once it is divided; the other units stay.
func TestSizeOver(t *testing.T) {
	for u := api.UEm; u <= api.UCqh; u++ {
		for _, r := range append([]api.Rat{over}, wrong...) {
			c := set(usual, u, r)
			for v := range 8 {
				want := Size(v, usual)
				if u == v {
					want = over
				}
				is(t, []any{u, r, v}, Size(v, c), want)
			}
		}
		great, small := set(usual, u, whole(math.MaxInt64)), set(usual, u, frac(1, 1<<62))
		if u <= api.URem {
			is(t, u, Size(u, great), whole(math.MaxInt64))
			is(t, u, Size(u, small), frac(1, 1<<62))
		} else {
			is(t, u, Size(u, great), frac(math.MaxInt64, 100))
			is(t, u, Size(u, small), over)
		}
	}
	for u := range 8 {
		want := over
		if u == api.UPx {
			want = whole(1)
		}
		is(t, u, Size(u, api.Ctx{}), want)
	}
}

// P13.2: something of each unit, of every unit, of none.
func TestPxUnits(t *testing.T) {
	sizes := [8]int64{0, 1, 16, 10, 10, 6, 3, 2}
	for u := api.UPx; u <= api.UCqh; u++ {
		for _, n := range []int64{1, -1, 0, 7} {
			is(t, []int{u, int(n)}, Px(one(u, whole(n)), usual), whole(n*sizes[u]))
		}
		is(t, u, Px(one(u, frac(2, 7)), usual), rat.Of(2*sizes[u], 7))
		is(t, u, Px(one(u, over), usual), over)
	}
	is(t, "nothing", Px(units(), usual), whole(0))
	is(t, "nothing", Px(units(), api.Ctx{}), whole(0))
	is(t, "every unit", Px(units(whole(1), whole(2), whole(3), whole(4), whole(5), whole(6), whole(7)), usual), whole(1+32+30+40+30+18+14))
	is(t, "every unit", Px(units(frac(1, 2), whole(-1), frac(1, 3), whole(0), frac(-1, 4), whole(1), frac(3, 2)), usual), frac(-23, 3))
	is(t, "over of every unit", Px(api.Form{}, usual), over)
}

// P13.2: parts of both kinds, in one another, beside units.
func TestPxParts(t *testing.T) {
	a, b, c := one(api.UPx, whole(15)), one(api.UEm, whole(1)), one(api.UVw, whole(2))
	for _, l := range [][]api.Form{{a, b, c}, {b, c, a}, {c, a, b}, {c, b, a}, {a, c}, {a, b, b, c, a}} {
		is(t, l, Px(with(units(), most(l...)), usual), whole(20))
		is(t, l, Px(with(units(), least(l...)), usual), whole(15))
		is(t, l, Px(with(units(), least(l...), most(l...)), usual), whole(35))
		is(t, l, Px(with(one(api.URem, whole(3)), most(l...), most(l...), least(l...)), usual), whole(85))
	}
	for _, f := range []api.Form{a, b, c, units()} {
		is(t, f, Px(with(units(), least(f)), usual), Px(f, usual))
		is(t, f, Px(with(units(), most(f)), usual), Px(f, usual))
	}
	inner := with(a, least(b, c)) // 31
	is(t, "within", Px(with(b, most(inner, c), least(inner, c)), usual), whole(16+31+20))
	is(t, "within", Px(with(a, least(with(b, most(inner, a)), with(c, most(a)))), usual), whole(15+35))
	is(t, "within", Px(with(units(), most(with(units(), least(inner, a)), with(units(), least(c)))), usual), whole(20))
	is(t, "nothing", Px(with(units(), least(units()), most(units(), units())), api.Ctx{}), whole(0))
	is(t, "below 0", Px(with(units(), least(units(), one(api.UEm, whole(-1))), most(units(), one(api.UEm, whole(-1)))), usual), whole(-16))
	is(t, "fractions", Px(with(units(frac(1, 2)), most(units(frac(1, 3)), one(api.UEm, frac(1, 64)))), usual), frac(5, 6))
}

// P13.2: what is nothing of a unit whose size is over does not tell; anything else does.
func TestPxSizeOver(t *testing.T) {
	for u := api.UEm; u <= api.UCqh; u++ {
		for _, r := range append([]api.Rat{over}, wrong...) {
			c := set(usual, u, r)
			f := units(whole(1), whole(1), whole(1), whole(1), whole(1), whole(1), whole(1))
			is(t, []any{u, r}, Px(f, c), over)
			f.Units[u-1] = whole(0)
			want := rat.Sub(whole(48), Size(u, usual))
			is(t, []any{u, r}, Px(f, c), want)
			is(t, []any{u, r}, Px(with(units(), least(f), most(f, f)), c), rat.Add(want, want))
			for _, some := range []api.Rat{whole(1), frac(-1, 1<<40), over} {
				g := one(u, some)
				is(t, []any{u, r}, Px(g, c), over)
				is(t, []any{u, r}, Px(with(f, least(f, g)), c), over)
				is(t, []any{u, r}, Px(with(f, most(g, f)), c), over)
				is(t, []any{u, r}, Px(with(f, most(f), least(with(f, most(f, f, with(f, least(g)))))), c), over)
			}
		}
	}
	is(t, "a part of over", Px(with(units(whole(1)), least(units(over), units(whole(-5)))), usual), over)
	is(t, "a product over", Px(units(whole(0), whole(math.MaxInt64)), usual), over)
	is(t, "a product not over", Px(units(whole(0), frac(math.MaxInt64, 16)), usual), whole(math.MaxInt64))
}

// P13.2: it is one sum, by rising units, then the parts: over on the way is over.
func TestPxOnTheWay(t *testing.T) {
	c := set(set(usual, api.UEm, whole(1)), api.URem, whole(1))
	big, few, minus := whole(math.MaxInt64), whole(1), whole(-1)
	is(t, "units", Px(units(big, minus, few), c), big)
	is(t, "units", Px(units(big, few, minus), c), over)
	is(t, "units", Px(units(few, minus, big), c), big)
	is(t, "units", Px(units(few, big, minus), c), over)
	is(t, "units", Px(units(minus, big, few), c), big)
	is(t, "parts", Px(with(units(big), least(units(few)), most(units(minus))), c), over)
	is(t, "parts", Px(with(units(big), least(units(minus)), most(units(few))), c), big)
	is(t, "parts", Px(with(units(), least(units(minus)), most(units(big)), least(units(few))), c), big)
	is(t, "parts", Px(with(units(), least(units(big)), most(units(few)), least(units(minus))), c), over)
	is(t, "units ahead of parts", Px(with(units(few, minus), most(units(big))), c), big)
	is(t, "units ahead of parts", Px(with(units(whole(0), few), most(units(big)), most(units(minus))), c), over)
	is(t, "in a part", Px(with(units(minus), most(units(big, few), units())), c), over)
}

// P13.2: forms that may not be; that is asked ahead of all else.
func TestPxMayNotBe(t *testing.T) {
	l := []api.Form{with(units(), api.Part{}), with(units(), most()), with(units(whole(1)), least(units()), least()), with(units(), least(units(), with(units(), most())))}
	for i := range 7 {
		for _, r := range wrong {
			f := units(whole(1))
			f.Units[i] = r
			l = append(l, f, with(units(), least(units(), f)), with(units(), least(units()), most(with(units(), most(f)))))
		}
	}
	for i, f := range l {
		is(t, i, Px(f, usual), over)
		is(t, i, Px(f, api.Ctx{}), over)
		is(t, i, Px(with(units(), most(f)), usual), over)
	}
	deep := units(whole(3))
	for n := 1; n <= 345; n++ {
		want := whole(3)
		if n > 340 {
			want = over
		}
		is(t, n, Px(deep, usual), want)
		deep = with(units(), api.Part{Max: n%2 == 0, Args: []api.Form{deep}})
	}
}

// P13.3: each kind of expression, as a number and as a length.
func TestDirect(t *testing.T) {
	for name, made := range map[string]func(api.Rat) api.Expr{
		"number": func(r api.Rat) api.Expr { return length(r, api.UNone) },
		"px":     func(r api.Rat) api.Expr { return length(r, api.UPx) },
		"em":     func(r api.Rat) api.Expr { return length(rat.Div(r, whole(16)), api.UEm) },
		"vh":     func(r api.Rat) api.Expr { return length(rat.Div(r, whole(6)), api.UVh) },
	} {
		w := func(n int64) api.Expr { return made(whole(n)) }
		third := made(frac(1, 3))
		direct(t, name, w(-7), usual, whole(-7))
		direct(t, name, third, usual, frac(1, 3))
		direct(t, name, made(over), usual, over)
		direct(t, name, of(api.ESum, w(1), third, w(-5)), usual, frac(-11, 3))
		direct(t, name, of(api.ESum, third), usual, frac(1, 3))
		direct(t, name, of(api.ENeg, third), usual, frac(-1, 3))
		direct(t, name, of(api.ENeg, of(api.ENeg, w(2))), usual, whole(2))
		direct(t, name, of(api.ENeg, w(0)), usual, whole(0))
		direct(t, name, of(api.EProd, w(6)), usual, whole(6))
		direct(t, name, of(api.EProd, w(6), num(-5)), usual, whole(-30))
		direct(t, name, of(api.EProd, num(2), w(6), of(api.EInv, num(5))), usual, frac(12, 5))
		direct(t, name, of(api.EProd, num(2), num(3), of(api.EProd, num(5), third)), usual, whole(10))
		direct(t, name, of(api.EProd, w(6), num(0)), usual, whole(0))
		direct(t, name, of(api.EMin, w(3), third, w(2)), usual, frac(1, 3))
		direct(t, name, of(api.EMax, third, w(3), w(2)), usual, whole(3))
		direct(t, name, of(api.EMin, w(3)), usual, whole(3))
		direct(t, name, of(api.EMax, w(3)), usual, whole(3))
		for _, c := range [][4]int64{{1, 2, 3, 2}, {1, 5, 3, 3}, {1, 0, 3, 1}, {4, 2, 3, 4}, {4, 9, 3, 4}, {3, 1, 2, 3}, {3, 3, 3, 3}, {-1, -5, -2, -1}} {
			direct(t, []any{name, c}, of(api.EClamp, w(c[0]), w(c[1]), w(c[2])), usual, whole(c[3]))
		}
	}
	direct(t, "inv", of(api.EInv, num(-4)), usual, frac(-1, 4))
	direct(t, "inv", of(api.EInv, length(frac(1, 3), api.UNone)), usual, whole(3))
	direct(t, "inv", of(api.EInv, of(api.EInv, num(7))), usual, whole(7))
	direct(t, "inv of 0", of(api.EInv, num(0)), usual, over)
	direct(t, "inv of 0", of(api.EProd, px(0), of(api.EInv, num(0))), usual, over)
	direct(t, "inv of 0", of(api.EInv, of(api.EInv, num(0))), usual, over)
	for u := api.UPx; u <= api.UCqh; u++ {
		both(t, u, length(frac(5, 3), u), usual, rat.Mul(frac(5, 3), Size(u, usual)))
	}
	// A number hangs on no context.
	for s, want := range map[string]api.Rat{"2": whole(2), "calc(1 / 4)": frac(1, 4), "calc(1 + 2 * 3 - 4)": whole(3), "clamp(1, 2, 3)": whole(2), "max(.5, .25)": frac(1, 2)} {
		direct(t, s, expr(t, s), api.Ctx{}, want)
	}
}

// P13.3: what is over stays over, wherever it stands; and what is over on the way.
func TestDirectOver(t *testing.T) {
	c := set(usual, api.UEm, over)
	for _, pair := range [][2]api.Expr{{length(over, api.UNone), num(0)}, {length(over, api.UPx), px(0)}, {em(1), px(0)}, {em(0), px(0)}} {
		o, a := pair[0], pair[1]
		for _, kind := range []int{api.ESum, api.EMin, api.EMax} {
			direct(t, kind, of(kind, o), c, over)
			direct(t, kind, of(kind, o, a), c, over)
			direct(t, kind, of(kind, a, a, o), c, over)
		}
		direct(t, "product", of(api.EProd, o), c, over)
		direct(t, "product", of(api.EProd, num(0), o, num(1)), c, over)
		direct(t, "neg", of(api.ENeg, o), c, over)
		direct(t, "clamp", of(api.EClamp, o, a, a), c, over)
		direct(t, "clamp", of(api.EClamp, a, o, a), c, over)
		direct(t, "clamp", of(api.EClamp, a, a, o), c, over)
	}
	direct(t, "inv", of(api.EInv, length(over, api.UNone)), c, over)
	big, quarter := num(1<<62), length(frac(1, 4), api.UNone)
	direct(t, "on the way", of(api.EProd, big, num(2), length(frac(1, 4), api.UPx)), usual, over)
	direct(t, "not on the way", of(api.EProd, big, length(frac(1, 4), api.UPx), num(2)), usual, whole(1<<61))
	direct(t, "not on the way", of(api.EProd, quarter, px(1<<62), num(2)), usual, whole(1<<61))
	direct(t, "on the way", of(api.ESum, px(1<<62), px(1<<62), px(-1<<62)), usual, over)
	direct(t, "not on the way", of(api.ESum, px(1<<62), px(-1<<62), px(1<<62)), usual, whole(1<<62))
	for _, r := range wrong {
		direct(t, r, em(1), set(usual, api.UEm, r), over)
		direct(t, r, px(1), set(usual, api.UEm, r), whole(1))
	}
}

// P13.3, P13.4: errors of calc.Kind and of norm.Form, handed on.
func TestRefused(t *testing.T) {
	for what, e := range map[string]api.Expr{
		"zero": {}, "no kind": of(9, px(1)), "no kids": of(api.ESum), "within": of(api.EMin, px(1), of(api.EClamp, px(1))), "a fraction": length(frac(2, 4), api.UPx), "a unit": length(whole(1), 8), "below": length(whole(1), -1), "Num of a sum": {Kind: api.ESum, Num: whole(1), Kids: []api.Expr{px(1)}}, "Unit of a sum": {Kind: api.ESum, Unit: api.UPx, Kids: []api.Expr{px(1)}}, "both": of(api.ESum, num(1), px(1), api.Expr{}),
	} {
		refused(t, what, e, api.ErrArg, api.ErrArg)
	}
	for _, s := range []string{"calc(1px * 2px)", "calc(1 / 2px)", "calc(1 + 1px)", "min(1, 1px)", "clamp(1px, 2, 3px)", "calc(2px / 1px)"} {
		refused(t, s, expr(t, s), api.ErrType, api.ErrType)
	}
	for _, s := range []string{"2", "0", "1e99", "calc(1 + 2)", "calc(1 / 0)", "min(1, 2)", "clamp(1, 2, 3)"} {
		if _, why := Direct(expr(t, s), usual); why != api.OK {
			t.Errorf("%q: %d", s, why)
		}
		if r, why := Length(expr(t, s), usual); why != api.ErrType || r != over {
			t.Errorf("%q: %v %d", s, r, why)
		}
	}
	e, n := em(1), num(1)
	for range 339 {
		e, n = of(api.ESum, e), of(api.EInv, n)
	}
	both(t, "340", e, usual, whole(16))
	direct(t, "340", n, usual, whole(1))
	refused(t, "341", of(api.ESum, e), api.ErrArg, api.ErrArg)
	refused(t, "341", of(api.EInv, n), api.ErrArg, api.ErrArg)
}

// P13.4, P13.6: lengths of which both ways tell the same.
func TestLength(t *testing.T) {
	for s, want := range map[string]api.Rat{
		"0px": whole(0), "0cqh": whole(0), "-1.5em": whole(-24), "1vw": whole(10), "7PX": whole(7), "1e99rem": over,
		"calc(1px + 2em + 3rem + 4vw + 5vh + 6cqw + 7cqh)": whole(1 + 32 + 30 + 40 + 30 + 18 + 14),
		"calc(1em - (2rem - 3vh))":                         whole(14),
		"calc(2 * 3em / 4)":                                whole(24),
		"calc((1px + 1em) * (2 - 5) / 7)":                  frac(-51, 7),
		"min(1em, 2rem, 1vw)":                              whole(10),
		"max(1em, 2rem, 1vw)":                              whole(20),
		"calc(-1 * min(1em, 1rem))":                        whole(-10),
		"calc(-1 * max(1em, 1rem) / 3)":                    frac(-16, 3),
		"calc(1px - max(1em, 20px) * 2)":                   whole(-39),
		"calc(min(1em, 1rem) - min(2em, 1vw))":             whole(0),
		"max(min(1em, 1rem), min(2cqw, 2cqh)) ":            whole(10),
		"clamp(1px, 1vw, 5px)":                             whole(5),
		"clamp(1rem, 1em, 1vw)":                            whole(10),
		"clamp(1em, 1rem, 1vw)":                            whole(16),
		"clamp(1em, 1px, 1cqh)":                            whole(16),
		"clamp(1px, 2px, 3px)":                             whole(2),
		"clamp(3px, 2px, 1px)":                             whole(3),
		"calc(clamp(3cqh, 1em, 5px) * -2)":                 whole(-12),
		"calc(1px / 0)":                                    over,
		"calc(0px / 0)":                                    over,
		"calc(1px * 1e99)":                                 over,
		"max(1px, 1e99em)":                                 over,
	} {
		both(t, s, expr(t, s), usual, want)
	}
}

// P13.4, P13.6: one of both ways tells over, the other does not.
func TestOneOver(t *testing.T) {
	none := set(usual, api.UEm, over)
	for s, want := range map[string]api.Rat{"0em": whole(0), "calc(0 * 1em)": whole(0), "calc(1em - 1em)": whole(0), "calc(2px + 3em - 3em)": whole(2), "calc(0 * min(1px, 1em))": whole(0), "max(0em, 3px)": whole(3), "calc((1em + 2rem) / 2 - .5em)": whole(10)} {
		direct(t, s, expr(t, s), none, over)
		long(t, s, expr(t, s), none, want)
	}
	quarter := set(usual, api.UEm, frac(1, 4))
	sum := of(api.ESum, em(1<<62), em(1<<62))
	direct(t, "sum", sum, quarter, whole(1<<61))
	long(t, "sum", sum, quarter, over)
	product := of(api.EProd, num(1<<62), em(1), num(2))
	direct(t, "product", product, quarter, whole(1<<61))
	long(t, "product", product, quarter, over)
	turned := of(api.ESum, px(math.MaxInt64), px(1), of(api.ENeg, px(2)))
	both(t, "both", turned, usual, over)
	apart := of(api.ESum, px(math.MaxInt64), em(1), px(-20))
	direct(t, "on the way", apart, usual, over)
	long(t, "not on the way", apart, usual, whole(math.MaxInt64-4))
}

// P13.3, P13.4: sizes below 0. A pick within one unit is by how much of it there is, as chapter 12 says, one of lengths by lengths.
func TestBelowNothing(t *testing.T) {
	c := set(set(usual, api.UEm, whole(-2)), api.UVw, whole(-300))
	both(t, "em", em(3), c, whole(-6))
	both(t, "sum", expr(t, "calc(1px - 2em + 1vw)"), c, whole(2))
	both(t, "least", expr(t, "min(1em, 0px, 1vw)"), c, whole(-3))
	both(t, "most", expr(t, "max(-1em, 1px, -1vw)"), c, whole(3))
	direct(t, "one unit", expr(t, "max(0em, 3em)"), c, whole(0))
	long(t, "one unit", expr(t, "max(0em, 3em)"), c, whole(-6))
	direct(t, "one unit", expr(t, "clamp(1vw, 2vw, 3vw)"), c, whole(-3))
	long(t, "one unit", expr(t, "clamp(1vw, 2vw, 3vw)"), c, whole(-6))
}

// P13.4: a form that is deeper than may be is over, though its expression may be.
func TestLengthDeep(t *testing.T) {
	e := em(1)
	for range 169 {
		e = of(api.EClamp, px(1), e, px(20))
	}
	both(t, "339", e, usual, whole(16))
	e = of(api.EMin, e, em(2))
	both(t, "340", e, usual, whole(16))
	e = of(api.EMax, e, px(3))
	direct(t, "341", e, usual, whole(16))
	long(t, "341", e, usual, over)
}

// P13.5: each bit, bits that are no unit's, below 0, 0.
func TestNames(t *testing.T) {
	all := []string{"px", "em", "rem", "vw", "vh", "cqw", "cqh"}
	for mask := range 1 << 9 {
		var want []string
		for i, name := range all {
			if mask>>(i+1)&1 == 1 {
				want = append(want, name)
			}
		}
		for _, m := range []int{mask, mask - 1<<9, mask + 1<<40, mask | math.MinInt, mask + 1<<62} {
			if got := Names(m); !slices.Equal(got, want) {
				t.Errorf("%d: %v, not %v", m, got, want)
			}
		}
	}
	for _, mask := range []int{0, 1, 256, 257, math.MinInt, -256, 1 << 33} {
		if got := Names(mask); len(got) != 0 {
			t.Error(mask, got)
		}
	}
	for _, mask := range []int{-1, -2, 254, 255, math.MaxInt} {
		if got := Names(mask); !slices.Equal(got, all) {
			t.Error(mask, got)
		}
	}
	for u, name := range all {
		if calc.Unit(name) != u+1 {
			t.Error(u, name)
		}
		if got := Names(norm.Uses(norm.One(u+1, whole(1)))); !slices.Equal(got, []string{name}) {
			t.Error(name, got)
		}
	}
}
