package unit

import (
	"math"
	"math/big"
	"math/rand"
	"slices"
	"testing"

	"jalousie/api"
	"jalousie/norm"
	"jalousie/rat"
)

// A second reading of the chapter, by fractions of any size: an amount is nil where it is over. With wide it is of arithmetic alone: only what has no value at all is over.
type amount = *big.Rat

type plain struct {
	c    api.Ctx
	wide bool
}

// fits: over, unless both halves have 63 bits at most.
func (p plain) fits(r amount) amount {
	if p.wide || r.Num().BitLen() <= 63 && r.Denom().BitLen() <= 63 {
		return r
	}
	return nil
}

func toAmount(r api.Rat) amount {
	if r.Den < 1 || r.Num == math.MinInt64 {
		return nil
	}
	v := big.NewRat(r.Num, r.Den)
	if v.Num().Int64() != r.Num || v.Denom().Int64() != r.Den {
		return nil
	}
	return v
}

func (p plain) added(l []amount) amount {
	total := new(big.Rat)
	for _, r := range l {
		if r == nil || total == nil {
			return nil
		}
		total = p.fits(new(big.Rat).Add(total, r))
	}
	return total
}

func (p plain) multiplied(l ...amount) amount {
	total := big.NewRat(1, 1)
	for _, r := range l {
		if r == nil || total == nil {
			return nil
		}
		total = p.fits(new(big.Rat).Mul(total, r))
	}
	return total
}

func chosen(most bool, l []amount) amount {
	if slices.Contains(l, nil) {
		return nil
	}
	l = slices.Clone(l)
	slices.SortFunc(l, func(a, b amount) int { return a.Cmp(b) })
	if most {
		return l[len(l)-1]
	}
	return l[0]
}

func (p plain) size(u int) amount {
	hundredth := big.NewRat(1, 100)
	switch u {
	case api.UPx:
		return big.NewRat(1, 1)
	case api.UEm:
		return toAmount(p.c.Font)
	case api.URem:
		return toAmount(p.c.Root)
	case api.UVw:
		return p.multiplied(toAmount(p.c.W), hundredth)
	case api.UVh:
		return p.multiplied(toAmount(p.c.H), hundredth)
	case api.UCqw:
		return p.multiplied(toAmount(p.c.Cw), hundredth)
	}
	return p.multiplied(toAmount(p.c.Ch), hundredth)
}

func (p plain) px(f api.Form) amount {
	var l []amount
	for u := 1; u <= 7; u++ {
		if r := toAmount(f.Units[u-1]); r == nil || r.Sign() != 0 {
			l = append(l, p.multiplied(r, p.size(u)))
		}
	}
	for _, part := range f.Parts {
		var m []amount
		for _, arg := range part.Args {
			m = append(m, p.px(arg))
		}
		l = append(l, chosen(part.Max, m))
	}
	return p.added(l)
}

func (p plain) direct(e api.Expr) amount {
	var l []amount
	for _, kid := range e.Kids {
		l = append(l, p.direct(kid))
	}
	switch e.Kind {
	case api.ENum:
		if e.Unit == api.UNone {
			return toAmount(e.Num)
		}
		return p.multiplied(toAmount(e.Num), p.size(e.Unit))
	case api.ESum:
		return p.added(l)
	case api.ENeg:
		return p.multiplied(big.NewRat(-1, 1), l[0])
	case api.EProd:
		return p.multiplied(l...)
	case api.EInv:
		if l[0] == nil || l[0].Sign() == 0 {
			return nil
		}
		return new(big.Rat).Inv(l[0])
	case api.EMin, api.EMax:
		return chosen(e.Kind == api.EMax, l)
	}
	return chosen(true, []amount{l[0], chosen(false, l[1:])})
}

// agrees: the fraction is the amount; over, where that is nil.
func agrees(t *testing.T, what any, got api.Rat, want amount) {
	t.Helper()
	if !rat.May(got) || (got == over) != (want == nil) || want != nil && toAmount(got).Cmp(want) != 0 {
		t.Fatalf("%+v: %v, not %v", what, got, want)
	}
}

// dice makes fractions, contexts, expressions and forms of a seed.
type dice struct{ *rand.Rand }

func roll(seed int64) dice { return dice{rand.New(rand.NewSource(seed))} }

func (d dice) rat() api.Rat {
	switch n := d.Intn(40); {
	case n == 0:
		return over
	case n == 1:
		return []api.Rat{whole(math.MaxInt64), whole(-math.MaxInt64), frac(1, math.MaxInt64), whole(1 << 62), frac(-1, 1<<62), frac(3, 1<<40)}[d.Intn(6)]
	case n < 8:
		return whole(0)
	case n < 16:
		return rat.Of(int64(d.Intn(41)-20), int64(d.Intn(9)+1))
	}
	return whole(int64(d.Intn(9) - 4))
}

// small: without over, and without what is soon over.
func (d dice) small() api.Rat { return rat.Of(int64(d.Intn(13)-6), int64(d.Intn(3)+1)) }

// raw: as rat, but now and then one that may not be.
func (d dice) raw() api.Rat {
	if d.Intn(20) == 0 {
		return wrong[d.Intn(len(wrong))]
	}
	return d.rat()
}

func (d dice) ctx(r func() api.Rat) api.Ctx {
	return api.Ctx{Font: r(), Root: r(), W: r(), H: r(), Cw: r(), Ch: r()}
}

// sizes: a context without a size below 0. Where there is one, the least of two lengths is not the one of which there is least, so that a pick within one unit, and what hangs on it, is another one than that of the lengths (see TestBelowNothing).
func (d dice) sizes(r func() api.Rat) api.Ctx {
	return d.ctx(func() api.Rat {
		v := r()
		if v.Num < 0 {
			return rat.Neg(v)
		}
		return v
	})
}

func (d dice) kids(deep int, length bool, n int, r func() api.Rat) []api.Expr {
	l := make([]api.Expr, n)
	for i := range l {
		l[i] = d.expr(deep-1, length, r)
	}
	return l
}

// expr: an expression of this kind, that many in one another at most.
func (d dice) expr(deep int, length bool, r func() api.Rat) api.Expr {
	n := d.Intn(9)
	if deep <= 1 || n < 2 {
		e := api.Expr{Kind: api.ENum, Num: r()}
		if length {
			e.Unit = []int{1, 1, 1, 2, 2, 3, 4, 5, 6, 7}[d.Intn(10)]
		}
		return e
	}
	switch n {
	case 2:
		return of(api.ENeg, d.expr(deep-1, length, r))
	case 3:
		if !length {
			return of(api.EInv, d.expr(deep-1, false, r))
		}
		return of(api.EClamp, d.kids(deep, true, 3, r)...)
	case 4:
		return of(api.EClamp, d.kids(deep, length, 3, r)...)
	case 5:
		l := d.kids(deep, false, d.Intn(3)+1, r)
		if length {
			l[d.Intn(len(l))] = d.expr(deep-1, true, r)
		}
		return of(api.EProd, l...)
	}
	return of([]int{api.ESum, api.EMin, api.EMax}[n-6], d.kids(deep, length, d.Intn(3)+1, r)...)
}

// form: a form as anybody makes it, that many in one another at most.
func (d dice) form(deep int, r func() api.Rat) api.Form {
	f := units()
	for range d.Intn(3) {
		f.Units[[]int{0, 0, 1, 2, 3, 4, 5, 6}[d.Intn(8)]] = r()
	}
	if deep <= 1 {
		return f
	}
	for range d.Intn(3) {
		p := api.Part{Max: d.Intn(2) == 0}
		for range d.Intn(3) + 1 {
			p.Args = append(p.Args, d.form(deep-1, r))
		}
		f.Parts = append(f.Parts, p)
	}
	return f
}

// P13.1: both readings tell the same sizes.
func TestPlainSizes(t *testing.T) {
	d := roll(1)
	for range 2000 {
		c := d.ctx(d.raw)
		for u := api.UPx; u <= api.UCqh; u++ {
			agrees(t, []any{u, c}, Size(u, c), plain{c: c}.size(u))
		}
	}
}

// P13.2: both readings tell the same of forms as anybody makes them.
func TestPlainForms(t *testing.T) {
	d := roll(2)
	overs := 0
	for i := range 20000 {
		f, c := d.form(1+i%4, d.rat), d.ctx(d.raw)
		got := Px(f, c)
		agrees(t, []any{f, c}, got, plain{c: c}.px(f))
		if got == over {
			overs++
		}
	}
	if overs < 2000 || overs > 18000 {
		t.Error("too few of a kind:", overs)
	}
}

// P13.3, P13.4: both readings tell the same of expressions.
func TestPlainReading(t *testing.T) {
	d := roll(3)
	for i := range 20000 {
		e, c := d.expr(2+i%5, i%3 > 0, d.rat), d.ctx(d.raw)
		got, why := Direct(e, c)
		if why != api.OK {
			t.Fatalf("%+v: %d", e, why)
		}
		agrees(t, []any{e, c}, got, plain{c: c}.direct(e))
		f, whyForm := norm.Form(e)
		long, why := Length(e, c)
		if why != whyForm || why != api.OK && (long != over || i%3 > 0) {
			t.Fatalf("%+v: %v %d", e, long, why)
		}
		if why == api.OK {
			agrees(t, []any{e, c}, long, plain{c: c}.px(f))
		}
	}
}

// P13.6: Direct and Length tell the same, or one of them over; what is not over is the value of arithmetic.
func TestSameLength(t *testing.T) {
	d := roll(4)
	same, longAlone, directAlone := 0, 0, 0
	for i := range 40000 {
		r := d.rat
		if i%2 == 0 {
			r = d.small
		}
		e, c := d.expr(2+i%5, true, r), d.sizes(r)
		a, why := Direct(e, c)
		b, f := Length(e, c)
		switch {
		case why != api.OK || f != api.OK:
			t.Fatalf("%+v: %d %d", e, why, f)
		case a != over && b != over:
			same++
			if a != b {
				t.Fatalf("%+v by %v: %v, not %v", e, c, b, a)
			}
		case a != over:
			directAlone++
		case b != over:
			longAlone++
		}
		if a != over {
			agrees(t, []any{e, c}, a, plain{c, true}.direct(e))
		}
	}
	if same < 10000 || longAlone < 100 || directAlone < 1 {
		t.Error("too few of a kind:", same, longAlone, directAlone)
	}
}

// P13.7: the sizes of units that norm.Uses leaves out don't tell.
func TestUnused(t *testing.T) {
	d := roll(5)
	left := 0
	for i := range 10000 {
		f, c := d.form(1+i%3, d.rat), d.ctx(d.small)
		if i%2 == 0 {
			f, _ = norm.Form(d.expr(2+i%4, true, d.rat))
		}
		want, uses, other := Px(f, c), norm.Uses(f), c
		for u := api.UEm; u <= api.UCqh; u++ {
			if uses>>u&1 == 0 {
				left++
				other = set(other, u, d.raw())
			}
		}
		if got := Px(f, other); got != want {
			t.Fatalf("%v by %v and %v: %v, not %v", f, c, other, got, want)
		}
	}
	if left < 10000 {
		t.Error("too few:", left)
	}
}

// P13.7: Px of norm.Add is the sum of both, of norm.Scale the product, or one of the two is over.
func TestAddScale(t *testing.T) {
	d := roll(6)
	asked := 0
	like := func(what any, got, want api.Rat) {
		t.Helper()
		if got == over || want == over {
			return
		}
		asked++
		if got != want {
			t.Fatalf("%v: %v, not %v", what, got, want)
		}
	}
	for i := range 20000 {
		r := d.rat
		if i%2 == 0 {
			r = d.small
		}
		f, g, k, c, raw := d.form(1+i%4, r), d.form(1+i%3, r), r(), d.sizes(r), d.ctx(r)
		like([]api.Form{f, g}, Px(norm.Add(f, g), raw), rat.Add(Px(f, raw), Px(g, raw)))
		like([]any{f, k, c}, Px(norm.Scale(f, k), c), rat.Mul(Px(f, c), k))
	}
	if asked < 20000 {
		t.Error("too few:", asked)
	}
}

// P13.7: all sizes times k make a plain form without px k times as long, or one is over.
func TestSizesScaled(t *testing.T) {
	d := roll(7)
	asked := 0
	for range 10000 {
		f := d.form(1, d.rat)
		f.Units[0] = whole(0)
		c, k := d.ctx(d.small), d.rat()
		by := c
		for _, r := range []*api.Rat{&by.Font, &by.Root, &by.W, &by.H, &by.Cw, &by.Ch} {
			*r = rat.Mul(*r, k)
		}
		got, want := Px(f, by), rat.Mul(Px(f, c), k)
		if got != over && want != over {
			asked++
			if got != want {
				t.Fatalf("%v by %v times %v: %v, not %v", f, c, k, got, want)
			}
		}
	}
	if asked < 5000 {
		t.Error("too few:", asked)
	}
}
