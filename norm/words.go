package norm

import (
	"math/bits"

	"jalousie/api"
	"jalousie/rat"
)

// row is so much of each unit: of the unit u at the place u-1.
type row [api.UCqh]api.Rat

var nothing = api.Rat{Num: 0, Den: 1}

func plus(a, b row) row {
	for i := range a {
		a[i] = rat.Add(a[i], b[i])
	}
	return a
}

func times(a row, k api.Rat) row {
	for i := range a {
		a[i] = rat.Mul(a[i], k)
	}
	return a
}

// usedOf tells the sum of 2^u over the units of which there is something.
func usedOf(a row) int {
	units := 0
	for i, r := range a {
		if r != nothing {
			units |= 1 << (i + 1)
		}
	}
	return units
}

// sum adds forms up. Its parts are theirs, not copies.
func sum(l ...api.Form) api.Form {
	total := Zero()
	for _, f := range l {
		total.Units = plus(total.Units, f.Units)
		total.Parts = append(total.Parts, f.Parts...)
	}
	return total
}

// pick tells the greatest or the least of one form or more. What it tells holds l itself, or what l holds.
func pick(most bool, l ...api.Form) api.Form {
	if len(l) == 1 {
		return l[0]
	}
	units, plain := usedPlain(l)
	if !plain || bits.OnesCount(uint(units)) > 1 {
		f := Zero()
		f.Parts = []api.Part{{Max: most, Args: l}}
		return f
	}
	if units == 0 {
		return Zero()
	}
	u := bits.TrailingZeros(uint(units))
	return One(u, pickOf(u, most, l))
}

// usedPlain tells of which units forms have something, and that all of them are plain.
func usedPlain(l []api.Form) (int, bool) {
	units := 0
	for _, f := range l {
		if len(f.Parts) > 0 {
			return 0, false
		}
		units |= usedOf(f.Units)
	}
	return units, true
}

// pickOf picks among what forms have of the unit u.
func pickOf(u int, most bool, l []api.Form) api.Rat {
	amounts := make([]api.Rat, len(l))
	for i, f := range l {
		amounts[i] = f.Units[u-1]
	}
	if most {
		return rat.Most(amounts...)
	}
	return rat.Least(amounts...)
}

// scaling tells f times k, in new memory. Below 0 the least becomes the greatest, and the other way round.
func scaling(f api.Form, k api.Rat) api.Form {
	below := k.Num < 0
	l := []api.Form{{Units: times(f.Units, k)}}
	for _, p := range f.Parts {
		args := make([]api.Form, len(p.Args))
		for i, arg := range p.Args {
			args[i] = scaling(arg, k)
		}
		l = append(l, pick(p.Max != below, args...))
	}
	return sum(l...)
}
