package env

import (
	"slices"

	"jalousie/api"
	"jalousie/rat"
)

// The features with words.
const (
	hover       = "hover"
	orientation = "orientation"
	pointer     = "pointer"
	scheme      = "prefers-color-scheme"
	motion      = "prefers-reduced-motion"
)

const (
	portrait  = "portrait"
	landscape = "landscape"
)

type feature struct {
	name  string
	words []string
}

// table tells the features with words. Each call makes the lists anew, so what is told of it is the caller's own.
func table() [5]feature {
	return [...]feature{
		{hover, []string{"none", "hover"}},
		{orientation, []string{portrait, landscape}},
		{pointer, []string{"none", "coarse", "fine"}},
		{scheme, []string{"light", "dark"}},
		{motion, []string{"no-preference", "reduce"}},
	}
}

func isWord(name, word string) bool {
	return slices.Contains(Words(name), word)
}

// field tells where e keeps the feature's word; nil, if it keeps none: orientation hangs on the window, so it can't be turned.
func field(e *api.Env, name string) *string {
	switch name {
	case hover:
		return &e.Hover
	case pointer:
		return &e.Pointer
	case scheme:
		return &e.Scheme
	case motion:
		return &e.Motion
	}
	return nil
}

// lie tells how the window lies. A square stands.
func lie(e api.Env) string {
	if c, _ := rat.Cmp(e.H, e.W); c >= 0 {
		return portrait
	}
	return landscape
}

func maySize(r api.Rat) bool {
	c, ok := rat.Cmp(r, rat.Of(0, 1))
	return ok && c >= 0
}

func mayBits(r api.Rat) bool {
	return maySize(r) && r.Den == 1
}

func mayWords(e api.Env) bool {
	for _, f := range table() {
		if at := field(&e, f.name); at != nil && !isWord(f.name, *at) {
			return false
		}
	}
	return true
}
