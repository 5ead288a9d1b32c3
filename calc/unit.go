package calc

// The units in api's order: a unit's number is the place of its name.
const (
	none = iota
	px
	em
	rem
	vw
	vh
	cqw
	cqh
)

var unitNames = [...]string{none: "", px: "px", em: "em", rem: "rem", vw: "vw", vh: "vh", cqw: "cqw", cqh: "cqh"}

// alike tells whether s is word, which is in small letters, but for A to Z: letters of other alphabets are not alike.
func alike(s, word string) bool {
	if len(s) != len(word) {
		return false
	}
	for i := range len(s) {
		if lower(s[i]) != word[i] {
			return false
		}
	}
	return true
}

func lower(c byte) byte {
	if c >= 'A' && c <= 'Z' {
		return c - 'A' + 'a'
	}
	return c
}
