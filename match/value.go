package match

import (
	"slices"
	"strings"

	"jalousie/api"
)

// blanks part the words of an attribute's value.
const blanks = " \t\n"

// valueTest tells a function that asks whether an attribute's value is as s wants it.
func valueTest(s api.Simple) func(value string) bool {
	if !s.Fold {
		return opTest(s.Op, s.Value)
	}
	pass := opTest(s.Op, lower(s.Value))
	return func(value string) bool { return pass(lower(value)) }
}

func opTest(op int, want string) func(value string) bool {
	switch op {
	case api.OpIs:
		return func(value string) bool { return value == want }
	case api.OpWord:
		return func(value string) bool { return hasWord(value, want) }
	case api.OpDash:
		return func(value string) bool { return value == want || strings.HasPrefix(value, want+"-") }
	case api.OpBegins:
		return func(value string) bool { return want != "" && strings.HasPrefix(value, want) }
	case api.OpEnds:
		return func(value string) bool { return want != "" && strings.HasSuffix(value, want) }
	case api.OpIn:
		return func(value string) bool { return want != "" && strings.Contains(value, want) }
	}
	return func(string) bool { return true } // OpHas
}

func hasWord(value, want string) bool {
	words := strings.FieldsFunc(value, func(c rune) bool { return strings.ContainsRune(blanks, c) })
	// A want that is empty, or has a blank in it, is no word of any value.
	return slices.Contains(words, want)
}

// lower makes A to Z small and nothing else: strings.ToLower would fold further letters, too.
func lower(s string) string {
	b := []byte(s)
	for i, c := range b {
		if c >= 'A' && c <= 'Z' {
			b[i] = c - 'A' + 'a'
		}
	}
	return string(b)
}
