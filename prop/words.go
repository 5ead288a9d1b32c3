package prop

import (
	"slices"

	"jalousie/api"
)

// dashes begin the name of a custom property.
const dashes = "--"

// deepest is how many values may stand in one another in anything that is handed in. Only a list that holds itself goes deeper, and would not end.
const deepest = 1 << 16

// anywhere tells whether a value of which this is so stands in l, at whatever depth.
func anywhere(l []api.Value, so func(api.Value) bool) bool {
	path := [][]api.Value{l}
	for len(path) > 0 && len(path) <= deepest {
		inner := len(path) - 1
		if len(path[inner]) == 0 {
			path = path[:inner]
			continue
		}
		v := path[inner][0]
		path[inner] = path[inner][1:]
		if so(v) {
			return true
		}
		if len(v.Kids) > 0 {
			path = append(path, v.Kids)
		}
	}
	return false
}

// bad tells whether l are bad values.
func bad(l []api.Value) bool {
	return slices.ContainsFunc(l, isSemi) || anywhere(l, isBroken)
}

func isSemi(v api.Value) bool { return v.Tok.Kind == api.TSemi }

func isSpace(v api.Value) bool { return v.Tok.Kind == api.TSpace }

// isBroken tells whether v is bad wherever it stands: a closer that is a value closes nothing.
func isBroken(v api.Value) bool {
	switch v.Tok.Kind {
	case api.TBadString, api.TBadUrl, api.TCloseParen, api.TCloseSquare, api.TCloseCurly:
		return true
	}
	return false
}

func isUse(v api.Value) bool {
	return v.Tok.Kind == api.TFunc && lower(v.Tok.Text) == "var"
}

// isWrongUse tells whether v is a use that may not be.
func isWrongUse(v api.Value) bool {
	if !isUse(v) {
		return false
	}
	l := withoutSpace(v.Kids)
	if len(l) == 0 || l[0].Tok.Kind != api.TIdent || !Custom(l[0].Tok.Text) {
		return true
	}
	behind := withoutSpace(l[1:])
	return len(behind) > 0 && behind[0].Tok.Kind != api.TComma
}

// withoutSpace tells l from its first value on that is no TSpace.
func withoutSpace(l []api.Value) []api.Value {
	for len(l) > 0 && isSpace(l[0]) {
		l = l[1:]
	}
	return l
}

// lower tells s with A to Z made a to z; letters of other alphabets stay.
func lower(s string) string {
	small := []byte(s)
	for at, c := range s {
		if c >= 'A' && c <= 'Z' {
			small[at] += 'a' - 'A'
		}
	}
	return string(small)
}
