package norm

import (
	"math"
	"math/big"
	"math/rand"
	"slices"
	"strings"
	"testing"

	"jalousie/api"
	"jalousie/calc"
	"jalousie/rat"
)

// A second reading of the chapter, by fractions of any size: an amount is nil where it is over.
type amount = *big.Rat

type plainForm struct {
	of    map[int]amount // by units; what is not there is 0
	parts []plainPart
}

type plainPart struct {
	most bool
	args []plainForm
}

// fits: over, unless both halves have 63 bits at most.
func fits(r amount) amount {
	if r == nil || r.Num().BitLen() > 63 || r.Denom().BitLen() > 63 {
		return nil
	}
	return r
}

func toAmount(r api.Rat) amount {
	if r.Den < 1 || r.Num == math.MinInt64 {
		return nil
	}
	v := big.NewRat(r.Num, r.Den)
	if v.Num().Int64() != r.Num || v.Denom().Int64() != r.Den {
		return nil
	}
	return v
}

func added(l []amount) amount {
	total := new(big.Rat)
	for _, r := range l {
		if r == nil || total == nil {
			return nil
		}
		total = fits(new(big.Rat).Add(total, r))
	}
	return total
}

func multiplied(l []amount) amount {
	total := big.NewRat(1, 1)
	for _, r := range l {
		if r == nil || total == nil {
			return nil
		}
		total = fits(new(big.Rat).Mul(total, r))
	}
	return total
}

func chosen(most bool, l []amount) amount {
	if slices.Contains(l, nil) {
		return nil
	}
	l = slices.Clone(l)
	slices.SortFunc(l, func(a, b amount) int { return a.Cmp(b) })
	if most {
		return l[len(l)-1]
	}
	return l[0]
}

func (f plainForm) has(u int) amount {
	if r, ok := f.of[u]; ok {
		return r
	}
	return new(big.Rat)
}

func (f plainForm) without(u int) bool { r := f.has(u); return r != nil && r.Sign() == 0 }

func plainSum(l []plainForm) plainForm {
	total := plainForm{of: map[int]amount{}}
	for u := 1; u <= 7; u++ {
		var column []amount
		for _, f := range l {
			column = append(column, f.has(u))
		}
		total.of[u] = added(column)
	}
	for _, f := range l {
		total.parts = append(total.parts, f.parts...)
	}
	return total
}

func plainPick(most bool, l []plainForm) plainForm {
	if len(l) == 1 {
		return l[0]
	}
	for u := 1; u <= 7; u++ {
		alone := true
		var column []amount
		for _, f := range l {
			column = append(column, f.has(u))
			alone = alone && len(f.parts) == 0
			for v := 1; v <= 7; v++ {
				alone = alone && (u == v || f.without(v))
			}
		}
		if alone {
			return plainForm{of: map[int]amount{u: chosen(most, column)}}
		}
	}
	return plainForm{parts: []plainPart{{most, l}}}
}

func plainScale(f plainForm, k amount) plainForm {
	first := plainForm{of: map[int]amount{}}
	for u := 1; u <= 7; u++ {
		first.of[u] = multiplied([]amount{f.has(u), k})
	}
	l := []plainForm{first}
	for _, p := range f.parts {
		var args []plainForm
		for _, a := range p.args {
			args = append(args, plainScale(a, k))
		}
		below := k != nil && k.Sign() < 0
		l = append(l, plainPick(p.most && !below || !p.most && below, args))
	}
	return plainSum(l)
}

func plainNumber(e api.Expr) amount {
	var l []amount
	for _, kid := range e.Kids {
		l = append(l, plainNumber(kid))
	}
	switch e.Kind {
	case api.ENum:
		return toAmount(e.Num)
	case api.ESum:
		return added(l)
	case api.ENeg:
		return multiplied([]amount{big.NewRat(-1, 1), l[0]})
	case api.EProd:
		return multiplied(l)
	case api.EInv:
		if l[0] == nil || l[0].Sign() == 0 {
			return nil
		}
		return new(big.Rat).Inv(l[0])
	case api.EMin, api.EMax:
		return chosen(e.Kind == api.EMax, l)
	}
	low := chosen(false, l[1:])
	return chosen(true, []amount{l[0], low})
}

func plainLength(e api.Expr) plainForm {
	if e.Kind == api.ENum {
		return plainForm{of: map[int]amount{e.Unit: toAmount(e.Num)}}
	}
	var l []plainForm
	var numbers []amount
	for _, kid := range e.Kids {
		if kind, _ := calc.Kind(kid); kind == api.KNumber {
			numbers = append(numbers, plainNumber(kid))
		} else {
			l = append(l, plainLength(kid))
		}
	}
	switch e.Kind {
	case api.ESum:
		return plainSum(l)
	case api.ENeg:
		return plainScale(l[0], big.NewRat(-1, 1))
	case api.EProd:
		return plainScale(l[0], multiplied(numbers))
	case api.EMin, api.EMax:
		return plainPick(e.Kind == api.EMax, l)
	}
	return plainPick(true, []plainForm{l[0], plainPick(false, l[1:])})
}

func (f plainForm) String() string {
	var b strings.Builder
	for u := 1; u <= 7; u++ {
		if r := f.has(u); r == nil {
			b.WriteString("over ")
		} else {
			b.WriteString(r.RatString() + " ")
		}
	}
	for _, p := range f.parts {
		b.WriteString(map[bool]string{false: "least(", true: "most("}[p.most])
		for _, a := range p.args {
			b.WriteString(a.String() + ",")
		}
		b.WriteString(")")
	}
	return b.String()
}

func toPlain(f api.Form) plainForm {
	g := plainForm{of: map[int]amount{}}
	for i, r := range f.Units {
		g.of[i+1] = toAmount(r)
	}
	for _, p := range f.Parts {
		g.parts = append(g.parts, plainPart{p.Max, toPlains(p.Args)})
	}
	return g
}

func toPlains(l []api.Form) []plainForm {
	var out []plainForm
	for _, f := range l {
		out = append(out, toPlain(f))
	}
	return out
}

// agrees: the form is written as the plain one is, and may be.
func agrees(t *testing.T, what any, got api.Form, want plainForm) {
	t.Helper()
	if g, w := toPlain(got).String(), want.String(); g != w {
		t.Fatalf("%v: %s, not %s", what, g, w)
	}
	if !May(got) {
		t.Fatalf("%v: may not be", what)
	}
}

// dice makes fractions, expressions and forms of a seed.
type dice struct{ *rand.Rand }

func roll(seed int64) dice { return dice{rand.New(rand.NewSource(seed))} }

func (d dice) rat() api.Rat {
	switch n := d.Intn(40); {
	case n == 0:
		return over
	case n == 1:
		return []api.Rat{whole(math.MaxInt64), whole(-math.MaxInt64), frac(1, math.MaxInt64), whole(1 << 62), frac(-1, 1<<62), frac(3, 1<<40)}[d.Intn(6)]
	case n < 8:
		return whole(0)
	case n < 16:
		return rat.Of(int64(d.Intn(41)-20), int64(d.Intn(9)+1))
	}
	return whole(int64(d.Intn(9) - 4))
}

// small: without over, and without what is soon over.
func (d dice) small() api.Rat { return rat.Of(int64(d.Intn(13)-6), int64(d.Intn(3)+1)) }

func (d dice) kids(deep int, length bool, n int, r func() api.Rat) []api.Expr {
	l := make([]api.Expr, n)
	for i := range l {
		l[i] = d.expr(deep-1, length, r)
	}
	return l
}

// expr: an expression of this kind, that many in one another at most.
func (d dice) expr(deep int, length bool, r func() api.Rat) api.Expr {
	n := d.Intn(9)
	if deep <= 1 || n < 2 {
		e := api.Expr{Kind: api.ENum, Num: r()}
		if length {
			e.Unit = []int{1, 1, 1, 2, 2, 3, 4, 5, 6, 7}[d.Intn(10)]
		}
		return e
	}
	switch n {
	case 2:
		return of(api.ENeg, d.expr(deep-1, length, r))
	case 3:
		if !length {
			return of(api.EInv, d.expr(deep-1, false, r))
		}
		return of(api.EClamp, d.kids(deep, true, 3, r)...)
	case 4:
		return of(api.EClamp, d.kids(deep, length, 3, r)...)
	case 5:
		l := d.kids(deep, false, d.Intn(3)+1, r)
		if length {
			l[d.Intn(len(l))] = d.expr(deep-1, true, r)
		}
		return of(api.EProd, l...)
	}
	return of([]int{api.ESum, api.EMin, api.EMax}[n-6], d.kids(deep, length, d.Intn(3)+1, r)...)
}

// form: a form as anybody makes it, that many in one another at most.
func (d dice) form(deep int, r func() api.Rat) api.Form {
	f := units()
	for range d.Intn(3) {
		f.Units[[]int{0, 0, 1, 2, 3, 4, 5, 6}[d.Intn(8)]] = r()
	}
	if deep <= 1 {
		return f
	}
	for range d.Intn(3) {
		p := api.Part{Max: d.Intn(2) == 0}
		for range d.Intn(3) + 1 {
			p.Args = append(p.Args, d.form(deep-1, r))
		}
		f.Parts = append(f.Parts, p)
	}
	return f
}

func (d dice) forms(n, deep int, r func() api.Rat) []api.Form {
	l := make([]api.Form, n)
	for i := range l {
		l[i] = d.form(deep, r)
	}
	return l
}

// P12.1, P12.2: both readings tell the same.
func TestPlainReading(t *testing.T) {
	d := roll(1)
	parted, overs := 0, 0
	for i := range 20000 {
		e := d.expr(2+i%5, i%3 > 0, d.rat)
		if i%3 == 0 {
			r, why := Number(e)
			want := plainNumber(e)
			if why != api.OK || (want == nil) != (r == over) || want != nil && toAmount(r).Cmp(want) != 0 || !rat.May(r) {
				t.Fatalf("%+v: %v %d, not %v", e, r, why, want)
			}
			continue
		}
		f, why := Form(e)
		if why != api.OK {
			t.Fatalf("%+v: %d", e, why)
		}
		agrees(t, e, f, plainLength(e))
		parted += min(1, len(f.Parts))
		if slices.Contains(f.Units[:], over) {
			overs++
		}
	}
	if parted < 1000 || overs < 500 {
		t.Error("too few of a kind:", parted, overs)
	}
}

// P12.3: both readings tell the same of forms as anybody makes them.
func TestPlainForms(t *testing.T) {
	d := roll(2)
	for i := range 5000 {
		l := d.forms(i%4, 1+i%4, d.rat)
		agrees(t, l, Add(l...), plainSum(toPlains(l)))
		if len(l) == 0 {
			continue
		}
		agrees(t, l, Pick(i%8 > 3, l...), plainPick(i%8 > 3, toPlains(l)))
		k := d.rat()
		agrees(t, []any{l[0], k}, Scale(l[0], k), plainScale(toPlain(l[0]), toAmount(k)))
		mask := 0
		for u := 1; u <= 7; u++ {
			if strings.Contains(usedWords(toPlain(l[0])), string(rune('0'+u))) {
				mask += 1 << u
			}
		}
		if Uses(l[0]) != mask {
			t.Fatalf("%v: %d, not %d", l[0], Uses(l[0]), mask)
		}
	}
}

// usedWords: the numbers of the units of which there is something, some of them often.
func usedWords(f plainForm) string {
	s := ""
	for u := 1; u <= 7; u++ {
		if !f.without(u) {
			s += string(rune('0' + u))
		}
	}
	for _, p := range f.parts {
		for _, a := range p.args {
			s += usedWords(a)
		}
	}
	return s
}

// hasOver: something in f, at whatever depth, is over.
func hasOver(f api.Form) bool {
	if slices.Contains(f.Units[:], over) {
		return true
	}
	for _, p := range f.Parts {
		if slices.ContainsFunc(p.Args, hasOver) {
			return true
		}
	}
	return false
}

// by: what a form is, where a unit is as large as this.
func by(size [8]int64, f plainForm) amount {
	total := new(big.Rat)
	for u := 1; u <= 7; u++ {
		total.Add(total, new(big.Rat).Mul(f.has(u), big.NewRat(size[u], 1)))
	}
	for _, p := range f.parts {
		var l []amount
		for _, a := range p.args {
			l = append(l, by(size, a))
		}
		total.Add(total, chosen(p.most, l))
	}
	return total
}

// sized: an expression with its lengths made numbers, where a unit is as large as this.
func sized(size [8]int64, e api.Expr) api.Expr {
	if e.Kind == api.ENum && e.Unit != api.UNone {
		return api.Expr{Kind: api.ENum, Num: rat.Mul(e.Num, whole(size[e.Unit]))}
	}
	kids := make([]api.Expr, len(e.Kids))
	for i, kid := range e.Kids {
		kids[i] = sized(size, kid)
	}
	e.Kids = kids
	return e
}

// P12.2: a form is what its expression is, whatever the units are.
func TestFormMeans(t *testing.T) {
	d := roll(3)
	asked := 0
	for i := range 10000 {
		e := d.expr(2+i%4, true, d.small)
		f, _ := Form(e)
		if hasOver(f) {
			continue
		}
		for range 3 {
			size := [8]int64{}
			for u := range size {
				size[u] = int64(d.Intn(40))
			}
			if want := plainNumber(sized(size, e)); want != nil {
				asked++
				if got := by(size, toPlain(f)); got.Cmp(want) != 0 {
					t.Fatalf("%+v: %v, not %v", e, got, want)
				}
			}
		}
	}
	if asked < 10000 {
		t.Error("too few:", asked)
	}
}

// bracketed: the same sum or product, its kids put into brackets by chance.
func (d dice) bracketed(kind int, l []api.Expr) api.Expr {
	if len(l) == 1 && d.Intn(2) == 0 {
		return l[0]
	}
	var kids []api.Expr
	for len(l) > 0 {
		n := d.Intn(len(l)) + 1
		if len(kids) == 0 && n == len(l) {
			n = (n + 1) / 2
		}
		if n == 1 {
			kids = append(kids, l[0])
		} else {
			kids = append(kids, d.bracketed(kind, l[:n]))
		}
		l = l[n:]
	}
	return of(kind, kids...)
}

// P12.5: brackets of sums and products don't matter, where nothing is over.
func TestBrackets(t *testing.T) {
	d := roll(4)
	for range 10000 {
		kind := []int{api.ESum, api.EProd}[d.Intn(2)]
		n := d.Intn(5) + 1
		l := d.kids(2, kind == api.ESum, n, d.small)
		if kind == api.EProd {
			l[d.Intn(n)] = of(api.ESum, d.kids(1, true, 3, d.small)...)
		}
		a, _ := Form(of(kind, l...))
		e := d.bracketed(kind, l)
		b, why := Form(e)
		if why != api.OK || !May(b) {
			t.Fatalf("%+v: %d", e, why)
		}
		if hasOver(a) || hasOver(b) || len(a.Parts) > 0 {
			continue
		}
		if !Same(a, b) {
			t.Fatalf("%+v: %v, not %v", e, b, a)
		}
	}
}

// byText: the parts of a form, in an order of their own.
func byText(f api.Form) []string {
	var l []string
	for _, p := range f.Parts {
		l = append(l, toPlain(with(units(), p)).String())
	}
	slices.Sort(l)
	return l
}

// P12.6: what follows for Scale, Add and Pick.
func TestFollows(t *testing.T) {
	d := roll(5)
	for i := range 10000 {
		f, why := Form(d.expr(2+i%4, true, d.rat))
		if why != api.OK || !Same(Scale(f, whole(1)), f) {
			t.Fatalf("%v: %v", f, Scale(f, whole(1)))
		}
		g := d.form(1+i%4, d.rat)
		x, y := Add(f, g), Add(g, f)
		if x.Units != y.Units || !slices.Equal(byText(x), byText(y)) {
			t.Fatalf("%v %v", x, y)
		}
		a, b := d.small(), d.small()
		once, twice := Scale(g, rat.Mul(a, b)), Scale(Scale(g, a), b)
		if !hasOver(once) && !hasOver(twice) && !Same(once, twice) {
			t.Fatalf("%v by %v and %v: %v, not %v", g, a, b, twice, once)
		}
		one := One(1+i%7, d.rat())
		if !Same(Pick(i%2 == 0, one, one), one) {
			t.Fatalf("%v: %v", one, Pick(i%2 == 0, one, one))
		}
	}
}

// P12.7: six whole and small numbers at most are never over.
func TestSmallNumbers(t *testing.T) {
	d := roll(6)
	var grown func(n int) api.Expr
	grown = func(n int) api.Expr {
		if n == 1 {
			return num([]int64{1023, -1023, 1021, int64(d.Intn(2047) - 1023)}[d.Intn(4)])
		}
		m := d.Intn(n-1) + 1
		a, b := grown(m), grown(n-m)
		if n >= 3 && d.Intn(4) == 0 {
			return of(api.EClamp, grown(1), grown(n-2), grown(1))
		}
		if d.Intn(4) == 0 {
			b = of(api.ENeg, b)
		}
		return of([]int{api.ESum, api.EProd, api.EProd, api.EMin, api.EMax}[d.Intn(5)], a, b)
	}
	for i := range 20000 {
		if r, why := Number(grown(1 + i%6)); r == over || why != api.OK {
			t.Fatal(r, why)
		}
	}
	for _, n := range []int64{1023, -1023} {
		counts(t, n, of(api.EProd, num(n), num(n), num(n), num(n), num(n), num(n)), whole(1023*1023*1023*1023*1023*1023))
	}
}
