package print

import (
	"slices"

	"jalousie/api"
)

func sameRule(a, b api.Rule) bool {
	return a.Kind == b.Kind && a.Name == b.Name &&
		sameValues(a.Prelude, b.Prelude) &&
		slices.EqualFunc(a.Decls, b.Decls, sameDecl) &&
		Same(a.Rules, b.Rules)
}

func sameDecl(a, b api.Decl) bool {
	return a.Name == b.Name && a.Important == b.Important && sameValues(a.Value, b.Value)
}

func sameValues(a, b []api.Value) bool {
	return slices.EqualFunc(a, b, sameValue)
}

func sameValue(a, b api.Value) bool {
	return a.Tok == b.Tok && sameValues(a.Kids, b.Kids)
}
