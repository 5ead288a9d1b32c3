// Package rat: exact fractions: see ../../shared/doc/01-rat.md.
package rat

import (
	"cmp"
	"math"
	"math/bits"

	"jalousie/api"
)

// Of tells the fraction of num / den.
func Of(num, den int64) api.Rat {
	if den == 0 {
		return api.Rat{}
	}
	n, d := magnitude(num), magnitude(den)
	g := divisor(n, d)
	return made((num < 0) != (den < 0), n/g, d/g)
}

// May tells whether r may be.
func May(r api.Rat) bool {
	if r.Den < 1 || r.Num == math.MinInt64 {
		return isOver(r)
	}
	return divisor(magnitude(r.Num), uint64(r.Den)) == 1
}

// Add tells the sum of l, reckoned from the left.
func Add(l ...api.Rat) api.Rat {
	sum := api.Rat{Num: 0, Den: 1}
	for _, r := range l {
		sum = plus(sum, r)
	}
	return sum
}

// Sub tells a - b.
func Sub(a, b api.Rat) api.Rat { return plus(a, Neg(b)) }

// Mul tells the product of l, reckoned from the left.
func Mul(l ...api.Rat) api.Rat {
	product := api.Rat{Num: 1, Den: 1}
	for _, r := range l {
		product = times(product, r)
	}
	return product
}

// Div tells a / b.
func Div(a, b api.Rat) api.Rat {
	if !isValue(b) {
		return api.Rat{}
	}
	return times(a, Of(b.Den, b.Num)) // of b that is 0, Of tells over
}

// Neg tells -a.
func Neg(a api.Rat) api.Rat {
	if !isValue(a) {
		return api.Rat{}
	}
	return api.Rat{Num: -a.Num, Den: a.Den}
}

// Cmp tells which of a and b is the greater.
func Cmp(a, b api.Rat) (int, bool) {
	if !isValue(a) || !isValue(b) {
		return 0, false
	}
	s := sign(a)
	if s != sign(b) {
		return cmp.Compare(s, sign(b)), true
	}
	aHigh, aLow := bits.Mul64(magnitude(a.Num), uint64(b.Den))
	bHigh, bLow := bits.Mul64(magnitude(b.Num), uint64(a.Den))
	return s * compareWide(aHigh, aLow, bHigh, bLow), true
}

// Least tells the least of l.
func Least(l ...api.Rat) api.Rat { return utmost(l, -1) }

// Most tells the greatest of l.
func Most(l ...api.Rat) api.Rat { return utmost(l, 1) }

// utmost tells the one of l that none surpasses: in Cmp's words, no other one is better to it.
func utmost(l []api.Rat, better int) api.Rat {
	if len(l) == 0 {
		return api.Rat{}
	}
	best := l[0]
	for _, r := range l { // from the first on, so that one alone is looked at, too
		c, ok := Cmp(r, best)
		if !ok {
			return api.Rat{}
		}
		if c == better {
			best = r
		}
	}
	return best
}

func isOver(r api.Rat) bool { return r == api.Rat{} }

// isValue: may it be, and is it not over?
func isValue(r api.Rat) bool { return May(r) && !isOver(r) }

func sign(r api.Rat) int { return cmp.Compare(r.Num, 0) }

// magnitude is unsigned, for that of the least int64 is no int64.
func magnitude(n int64) uint64 {
	if n < 0 {
		return -uint64(n)
	}
	return uint64(n)
}

// divisor tells the greatest one that a and b have in common; that of 0 and b is b.
func divisor(a, b uint64) uint64 {
	for b != 0 {
		a, b = b, a%b
	}
	return a
}

// made puts a fraction together from magnitudes in lowest terms; over, if one of them is too great.
func made(below bool, num, den uint64) api.Rat {
	if num > math.MaxInt64 || den > math.MaxInt64 {
		return api.Rat{}
	}
	if below {
		return api.Rat{Num: -int64(num), Den: int64(den)}
	}
	return api.Rat{Num: int64(num), Den: int64(den)}
}

// plus divides by what is in common ahead of multiplying, so that the sum's upper part is all that ever takes 128 bits.
func plus(a, b api.Rat) api.Rat {
	if !isValue(a) || !isValue(b) {
		return api.Rat{}
	}
	aDen, bDen := uint64(a.Den), uint64(b.Den)
	g := divisor(aDen, bDen)
	below, high, low := crossSum(a, bDen/g, b, aDen/g)
	// The upper part can share a divisor with g alone: each of the other factors of the lower part divides just one of the two products.
	common := divisor(g, bits.Rem64(high, low, g))
	if high >= common {
		return api.Rat{} // the quotient has more than 64 bits
	}
	num, _ := bits.Div64(high, low, common)
	over, den := bits.Mul64(aDen/g, bDen/common)
	if over != 0 {
		return api.Rat{}
	}
	return made(below, num, den)
}

// crossSum tells a.Num * aBy + b.Num * bBy: is it below 0, and its magnitude's 128 bits, the upper 64 first. The magnitudes that plus hands in are below 2^63, so that the sum has room.
func crossSum(a api.Rat, aBy uint64, b api.Rat, bBy uint64) (bool, uint64, uint64) {
	aHigh, aLow := bits.Mul64(magnitude(a.Num), aBy)
	bHigh, bLow := bits.Mul64(magnitude(b.Num), bBy)
	below := a.Num < 0
	if below == (b.Num < 0) {
		low, carry := bits.Add64(aLow, bLow, 0)
		high, _ := bits.Add64(aHigh, bHigh, carry)
		return below, high, low
	}
	if compareWide(aHigh, aLow, bHigh, bLow) < 0 {
		below = !below
		aHigh, aLow, bHigh, bLow = bHigh, bLow, aHigh, aLow
	}
	low, borrow := bits.Sub64(aLow, bLow, 0)
	high, _ := bits.Sub64(aHigh, bHigh, borrow)
	return below, high, low
}

func compareWide(aHigh, aLow, bHigh, bLow uint64) int {
	if c := cmp.Compare(aHigh, bHigh); c != 0 {
		return c
	}
	return cmp.Compare(aLow, bLow)
}

// times divides crosswise ahead of multiplying: what is left is in lowest terms, so a product of more than 64 bits is over.
func times(a, b api.Rat) api.Rat {
	if !isValue(a) || !isValue(b) {
		return api.Rat{}
	}
	aNum, aDen := magnitude(a.Num), uint64(a.Den)
	bNum, bDen := magnitude(b.Num), uint64(b.Den)
	g, h := divisor(aNum, bDen), divisor(bNum, aDen)
	numOver, num := bits.Mul64(aNum/g, bNum/h)
	denOver, den := bits.Mul64(aDen/h, bDen/g)
	if numOver != 0 || denOver != 0 {
		return api.Rat{}
	}
	return made((a.Num < 0) != (b.Num < 0), num, den)
}
