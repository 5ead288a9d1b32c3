package norm

import (
	"jalousie/api"
	"jalousie/rat"
)

// deepest is how many parts may stand in one another in anything that is handed in. Only a form that holds itself goes deeper, and would not end.
const deepest = 1 << 16

// mayAt asks of a form that stands in so many (itself counted). The depth is asked on the way down, so that a form which holds itself comes to an end too.
func mayAt(f api.Form, depth int) bool {
	if depth > api.MaxExpr {
		return false
	}
	for _, r := range f.Units {
		if !rat.May(r) {
			return false
		}
	}
	for _, p := range f.Parts {
		if len(p.Args) == 0 {
			return false
		}
		for _, arg := range p.Args {
			if !mayAt(arg, depth+1) {
				return false
			}
		}
	}
	return true
}

func allMay(l []api.Form) bool {
	for _, f := range l {
		if !May(f) {
			return false
		}
	}
	return true
}

// sameAt asks of forms that stand in so many parts.
func sameAt(a, b api.Form, depth int) bool {
	if depth > deepest || a.Units != b.Units || len(a.Parts) != len(b.Parts) {
		return false
	}
	for i := range a.Parts {
		if !samePart(a.Parts[i], b.Parts[i], depth+1) {
			return false
		}
	}
	return true
}

func samePart(a, b api.Part, depth int) bool {
	if a.Max != b.Max || len(a.Args) != len(b.Args) {
		return false
	}
	for i := range a.Args {
		if !sameAt(a.Args[i], b.Args[i], depth) {
			return false
		}
	}
	return true
}

// used tells the units of a form that may be, and of all forms in it.
func used(f api.Form) int {
	units := usedOf(f.Units)
	for _, p := range f.Parts {
		for _, arg := range p.Args {
			units |= used(arg)
		}
	}
	return units
}

// clone copies all lists of a form, whosever they were.
func clone(f api.Form) api.Form {
	f.Parts = append([]api.Part(nil), f.Parts...)
	for i, p := range f.Parts {
		args := make([]api.Form, len(p.Args))
		copy(args, p.Args)
		for j, arg := range args {
			args[j] = clone(arg)
		}
		f.Parts[i].Args = args
	}
	return f
}
