package match

import (
	"math/bits"

	"jalousie/api"
)

const wordBits = 64

// set is a set of elements, by their indices in a view: a bit each.
type set [api.MaxNodes / wordBits]uint64

func (s set) with(at int) set {
	s[at/wordBits] |= 1 << (at % wordBits)
	return s
}

func (s set) or(o set) set {
	for i := range s {
		s[i] |= o[i]
	}
	return s
}

func (s set) minus(o set) set {
	for i := range s {
		s[i] &^= o[i]
	}
	return s
}

// crosses tells whether some element is in both.
func (s set) crosses(o set) bool {
	return s.minus(o) != s
}

// each shows the indices, rising.
func (s set) each(show func(at int)) {
	for i, word := range s {
		for ; word != 0; word &= word - 1 {
			show(i*wordBits + bits.TrailingZeros64(word))
		}
	}
}

// those tells the ones that pass.
func (s set) those(pass func(at int) bool) set {
	var kept set
	s.each(func(at int) {
		if pass(at) {
			kept = kept.with(at)
		}
	})
	return kept
}
