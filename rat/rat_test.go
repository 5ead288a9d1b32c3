package rat

import (
	"math"
	"math/big"
	"math/rand"
	"slices"
	"testing"

	"jalousie/api"
)

const (
	lowest  = math.MinInt64
	highest = math.MaxInt64
)

func frac(num, den int64) api.Rat { return api.Rat{Num: num, Den: den} }

// Fractions that may not be, each for another reason or by another sign.
var barred = []api.Rat{
	{Num: 2, Den: 4}, {Num: -2, Den: 4}, {Num: 0, Den: 2}, {Num: 0, Den: -1}, {Num: 1, Den: -1}, {Num: -1, Den: -2},
	{Num: 1, Den: 0}, {Num: -1, Den: 0}, {Num: lowest, Den: 0}, {Num: lowest, Den: 1}, {Num: lowest, Den: 3}, {Num: lowest, Den: lowest},
	{Num: 1, Den: lowest}, {Num: 0, Den: lowest}, {Num: highest, Den: highest}, {Num: highest - 1, Den: 2}, {Num: highest, Den: 7},
}

// values: fractions that may be and are not over: the ends, what is near them, powers, small ones and some that are strewn about.
func values() []api.Rat {
	l := []api.Rat{
		{Num: highest, Den: 1}, {Num: highest - 1, Den: 1}, {Num: highest, Den: 2}, {Num: highest, Den: highest - 1}, {Num: highest - 1, Den: highest},
		{Num: 1, Den: highest}, {Num: 1, Den: highest - 1}, {Num: 2, Den: highest}, {Num: 1 << 62, Den: 1}, {Num: 1, Den: 1 << 62}, {Num: 1<<62 - 1, Den: 1 << 62},
		{Num: 1 << 32, Den: 1}, {Num: 1<<32 + 1, Den: 1 << 32}, {Num: 1, Den: 1<<32 - 1}, {Num: 3037000500, Den: 1}, {Num: 3037000499, Den: 3037000500},
		{Num: 1000000000000000000, Den: 1}, {Num: 1, Den: 1000000000000000000}, {Num: highest, Den: 3}, {Num: highest - 2, Den: 9},
	}
	for num := int64(1); num <= 7; num++ {
		for den := int64(1); den <= 7; den++ {
			l = append(l, Of(num, den))
		}
	}
	strewn := rand.New(rand.NewSource(1))
	for range 24 {
		num, den := strewn.Int63()>>strewn.Intn(62), strewn.Int63()>>strewn.Intn(62)
		l = append(l, Of(num+1, den|1))
	}
	l = slices.DeleteFunc(l, func(r api.Rat) bool { return r == api.Rat{} })
	for _, r := range slices.Clone(l) {
		l = append(l, frac(-r.Num, r.Den))
	}
	return append(l, frac(0, 1))
}

func wide(r api.Rat) *big.Rat { return big.NewRat(r.Num, r.Den) }

// narrow: the fraction of an exact value, by the document's words.
func narrow(x *big.Rat) api.Rat {
	if !x.Num().IsInt64() || !x.Denom().IsInt64() || x.Num().Int64() == lowest {
		return api.Rat{}
	}
	return api.Rat{Num: x.Num().Int64(), Den: x.Denom().Int64()}
}

func TestValuesOfTheTestsMayBe(t *testing.T) {
	for _, r := range values() {
		if r.Den < 1 || narrow(wide(r)) != r {
			t.Errorf("%v may not be", r)
		}
	}
}

// P1.1
func TestOf(t *testing.T) {
	for _, c := range []struct {
		num, den int64
		want     api.Rat
	}{
		{6, -4, frac(-3, 2)}, {0, 5, frac(0, 1)}, {0, -5, frac(0, 1)}, {0, lowest, frac(0, 1)}, {1, 0, api.Rat{}}, {0, 0, api.Rat{}}, {lowest, 0, api.Rat{}},
		{lowest, 1, api.Rat{}}, {lowest, -1, api.Rat{}}, {lowest, 2, frac(-1<<62, 1)}, {lowest, -2, frac(1<<62, 1)}, {lowest, lowest, frac(1, 1)},
		{1, lowest, api.Rat{}}, {2, lowest, frac(-1, 1<<62)}, {-6, lowest, frac(3, 1<<62)}, {highest, lowest, api.Rat{}}, {lowest, highest, api.Rat{}},
		{highest, -1, frac(-highest, 1)}, {highest, highest, frac(1, 1)}, {-highest, highest, frac(-1, 1)}, {-4, -6, frac(2, 3)},
	} {
		if got := Of(c.num, c.den); got != c.want {
			t.Errorf("Of(%d, %d): %v, not %v", c.num, c.den, got, c.want)
		}
	}
}

// P1.1
func TestOfIsExact(t *testing.T) {
	ends := []int64{lowest, lowest + 1, lowest + 2, lowest / 2, -1 << 32, -7, -2, -1, 1, 2, 3, 4, 6, 7, 1 << 31, 1 << 32, 1 << 62, highest / 3, highest - 1, highest}
	for _, num := range append(ends, 0) {
		for _, den := range ends {
			if got, want := Of(num, den), narrow(big.NewRat(1, 1).SetFrac(big.NewInt(num), big.NewInt(den))); got != want {
				t.Errorf("Of(%d, %d): %v, not %v", num, den, got, want)
			}
		}
	}
}

// P1.1
func TestMay(t *testing.T) {
	for _, r := range append(values(), api.Rat{}) {
		if !May(r) {
			t.Errorf("%v must be", r)
		}
	}
	for _, r := range barred {
		if May(r) {
			t.Errorf("%v must not be", r)
		}
	}
	for num := int64(-12); num <= 12; num++ {
		for den := int64(-12); den <= 12; den++ {
			want := num == 0 && den == 0
			if den > 0 {
				want = narrow(big.NewRat(num, den)) == frac(num, den)
			}
			if May(frac(num, den)) != want {
				t.Errorf("May(%d/%d): %v", num, den, !want)
			}
		}
	}
}

// P1.2
func TestReckonedExamples(t *testing.T) {
	one, over := frac(1, 1), api.Rat{}
	for i, c := range []struct{ got, want api.Rat }{
		{Add(frac(1, 2), frac(1, 3)), frac(5, 6)}, {Add(), frac(0, 1)}, {Add(over), over}, {Add(frac(2, 4)), over}, {Add(frac(-3, 7)), frac(-3, 7)},
		{Add(frac(highest, 2), frac(highest, 2)), frac(highest, 1)}, {Add(frac(highest, 1), one), over}, {Add(frac(-highest, 1), frac(-1, 1)), over},
		{Add(frac(highest, 1), one, frac(-1, 1)), over}, {Add(frac(highest, 1), frac(-1, 1), one), frac(highest, 1)},
		{Add(frac(1, 2), frac(1, 3), frac(1, 6)), one}, {Add(one, over, one), over}, {Add(one, one, frac(0, 2)), over}, {Add(frac(1, highest), frac(1, highest-1)), over},
		{Mul(), one}, {Mul(over), over}, {Mul(frac(0, 3)), over}, {Mul(frac(-3, 7)), frac(-3, 7)},
		{Mul(frac(1<<62, 1), frac(2, 1), frac(1, 4)), over}, {Mul(frac(1<<62, 1), frac(1, 4), frac(2, 1)), frac(1<<61, 1)},
		{Mul(frac(-1<<62, 1), frac(2, 1)), over}, {Mul(frac(0, 1), over), over}, {Mul(over, frac(0, 1)), over}, {Mul(frac(highest, 3), frac(3, highest)), one},
		{Sub(frac(1, 2), frac(1, 3)), frac(1, 6)}, {Sub(frac(-highest, 1), one), over}, {Sub(over, over), over}, {Sub(one, frac(2, 2)), over},
		{Div(frac(1, 2), frac(-3, 4)), frac(-2, 3)}, {Div(one, frac(0, 1)), over}, {Div(frac(0, 1), frac(0, 1)), over}, {Div(over, one), over}, {Div(frac(0, 1), frac(-7, 1)), frac(0, 1)},
		{Div(frac(highest, 1), frac(1, 2)), over}, {Neg(frac(-3, 2)), frac(3, 2)}, {Neg(frac(0, 1)), frac(0, 1)}, {Neg(over), over}, {Neg(frac(highest, 1)), frac(-highest, 1)},
	} {
		if c.got != c.want {
			t.Errorf("%d: %v, not %v", i, c.got, c.want)
		}
	}
}

// P1.2
func TestReckonedIsExact(t *testing.T) {
	l := values()
	for _, a := range l {
		if got := Neg(a); got != narrow(new(big.Rat).Neg(wide(a))) {
			t.Errorf("-(%v): %v", a, got)
		}
		for _, b := range l {
			x, y := wide(a), wide(b)
			if got, want := Add(a, b), narrow(new(big.Rat).Add(x, y)); got != want {
				t.Errorf("%v + %v: %v, not %v", a, b, got, want)
			}
			if got, want := Sub(a, b), narrow(new(big.Rat).Sub(x, y)); got != want {
				t.Errorf("%v - %v: %v, not %v", a, b, got, want)
			}
			if got, want := Mul(a, b), narrow(new(big.Rat).Mul(x, y)); got != want {
				t.Errorf("%v * %v: %v, not %v", a, b, got, want)
			}
			if b.Num == 0 {
				continue
			}
			if got, want := Div(a, b), narrow(new(big.Rat).Quo(x, y)); got != want {
				t.Errorf("%v / %v: %v, not %v", a, b, got, want)
			}
		}
	}
}

// P1.2: the sums and products on the way are those of two each.
func TestReckonedFromTheLeft(t *testing.T) {
	l := append(values()[:40], api.Rat{}, frac(0, 1))
	for i, a := range l {
		for _, b := range l {
			c := l[(i*7+3)%len(l)]
			if got, want := Add(a, b, c), Add(Add(a, b), c); got != want {
				t.Errorf("%v + %v + %v: %v, not %v", a, b, c, got, want)
			}
			if got, want := Mul(a, b, c), Mul(Mul(a, b), c); got != want {
				t.Errorf("%v * %v * %v: %v, not %v", a, b, c, got, want)
			}
		}
	}
}

// P1.2, P1.3: what may not be counts as over, wherever it stands.
func TestOverStaysOver(t *testing.T) {
	for _, bad := range append(barred, api.Rat{}) {
		for _, r := range append(values(), barred...) {
			for i, got := range []api.Rat{
				Neg(bad), Add(bad), Mul(bad), Least(bad), Most(bad), Add(bad, r), Add(r, bad), Sub(bad, r), Sub(r, bad), Mul(bad, r), Mul(r, bad), Div(bad, r), Div(r, bad),
				Add(r, bad, r), Mul(r, r, bad), Least(bad, r), Least(r, bad), Most(r, bad, r), Most(bad, r),
			} {
				if got != (api.Rat{}) {
					t.Errorf("%d, of %v and %v: %v", i, bad, r, got)
				}
			}
			if n, ok := Cmp(bad, r); n != 0 || ok {
				t.Errorf("Cmp(%v, %v): %d %v", bad, r, n, ok)
			}
			if n, ok := Cmp(r, bad); n != 0 || ok {
				t.Errorf("Cmp(%v, %v): %d %v", r, bad, n, ok)
			}
		}
	}
}

// P1.3
func TestCmp(t *testing.T) {
	for _, c := range []struct {
		a, b api.Rat
		want int
	}{
		{frac(highest, 1), frac(highest-1, 1), 1}, {frac(-highest, highest-1), frac(-highest+1, highest), -1}, {frac(highest-1, highest), frac(highest-2, highest-1), 1},
		{frac(1, 3), frac(1, 3), 0}, {frac(-1, 9), frac(0, 1), -1}, {frac(0, 1), frac(-1, 9), 1}, {frac(0, 1), frac(0, 1), 0}, {frac(-1, 2), frac(-1, 3), -1},
	} {
		if got, ok := Cmp(c.a, c.b); got != c.want || !ok {
			t.Errorf("Cmp(%v, %v): %d %v", c.a, c.b, got, ok)
		}
	}
	l := values()
	for _, a := range l {
		for _, b := range l {
			want := wide(a).Cmp(wide(b))
			if got, ok := Cmp(a, b); got != want || !ok {
				t.Errorf("Cmp(%v, %v): %d %v", a, b, got, ok)
			}
			least, most := a, b
			if want > 0 {
				least, most = b, a
			}
			if got := Least(a, b); got != least {
				t.Errorf("Least(%v, %v): %v", a, b, got)
			}
			if got := Most(a, b); got != most {
				t.Errorf("Most(%v, %v): %v", a, b, got)
			}
		}
	}
}

// P1.3
func TestLeastAndMostOfMany(t *testing.T) {
	if Least() != (api.Rat{}) || Most() != (api.Rat{}) {
		t.Error("of none: not over")
	}
	if Least(frac(-3, 4)) != frac(-3, 4) || Most(frac(-3, 4)) != frac(-3, 4) {
		t.Error("of one: not it")
	}
	l := values()
	for turn := range l {
		turned := append(slices.Clone(l[turn:]), l[:turn]...)
		if got := Least(turned...); got != frac(-highest, 1) {
			t.Errorf("the least: %v", got)
		}
		if got := Most(turned...); got != frac(highest, 1) {
			t.Errorf("the greatest: %v", got)
		}
		if got := Least(append(turned, api.Rat{})...); got != (api.Rat{}) {
			t.Errorf("the least, with over: %v", got)
		}
	}
}

// R2: what is handed in is not changed.
func TestArgumentsStay(t *testing.T) {
	l := append(values(), barred...)
	kept := slices.Clone(l)
	Add(l...)
	Mul(l...)
	Least(l...)
	Most(l...)
	if !slices.Equal(l, kept) {
		t.Error("a list that was handed in has changed")
	}
}

// P1.7
func TestLawsOfReckoning(t *testing.T) {
	one := frac(1, 1)
	l := append(values(), api.Rat{})
	for _, a := range l {
		if Neg(Neg(a)) != a {
			t.Errorf("-(-(%v)): %v", a, Neg(Neg(a)))
		}
		if isOver(a) {
			continue
		}
		if got := Add(a, Neg(a)); got != frac(0, 1) {
			t.Errorf("%v and it turned: %v", a, got)
		}
		if got := Div(a, a); a.Num != 0 && got != one {
			t.Errorf("%v by it: %v", a, got)
		}
	}
	for _, a := range l {
		for _, b := range l {
			if Add(a, b) != Add(b, a) || Mul(a, b) != Mul(b, a) {
				t.Errorf("%v, %v: not both ways", a, b)
			}
			if s := Add(a, b); !isOver(s) && Sub(s, b) != a {
				t.Errorf("%v + %v - %v: %v", a, b, b, Sub(s, b))
			}
			if p := Mul(a, b); !isOver(p) && b.Num != 0 && Div(p, b) != a {
				t.Errorf("%v * %v / %v: %v", a, b, b, Div(p, b))
			}
		}
	}
}

// P1.7, P1.8
func TestLawsOfThree(t *testing.T) {
	l := values()
	for _, a := range l {
		for _, b := range l {
			n, _ := Cmp(a, b)
			if (n == 0) != (a == b) {
				t.Errorf("Cmp(%v, %v): %d", a, b, n)
			}
			if m, _ := Cmp(b, a); m != -n {
				t.Errorf("Cmp(%v, %v): %d, the other way %d", a, b, n, m)
			}
			if m, _ := Cmp(Neg(b), Neg(a)); m != n {
				t.Errorf("Cmp(%v, %v): %d, turned %d", a, b, n, m)
			}
			for i := 0; i < len(l); i += 5 { // each fifth: all would be millions
				checkThree(t, a, b, l[i], n)
			}
		}
	}
}

func checkThree(t *testing.T, a, b, c api.Rat, n int) {
	m, _ := Cmp(b, c)
	if far, _ := Cmp(a, c); n <= 0 && m <= 0 && far != min(n, m) {
		t.Errorf("%v, %v, %v: %d does not go on", a, b, c, far)
	}
	ac, bc := Add(a, c), Add(b, c)
	if s, ok := Cmp(ac, bc); ok && s != n {
		t.Errorf("Cmp(%v, %v): %d, with %v added %d", a, b, n, c, s)
	}
	left, right := Mul(c, Add(a, b)), Add(Mul(c, a), Mul(c, b))
	if !isOver(left) && !isOver(right) && left != right {
		t.Errorf("%v * (%v + %v): %v, not %v", c, a, b, right, left)
	}
}
