package dom

import (
	"jalousie/api"
	"jalousie/rat"
)

// MayBox tells whether b may be a box.
func MayBox(b api.Box) bool {
	if b.Type < api.BoxNone || b.Type > api.BoxSize {
		return false
	}
	return (b.Name == "" || MayName(b.Name)) && maySide(b.W) && maySide(b.H)
}

// MayName tells whether s is a name.
func MayName(s string) bool {
	if s == "" || len(s) > api.MaxName || !isHead(s[0]) {
		return false
	}
	for i := range len(s) {
		if c := s[i]; !isHead(c) && c != '-' && (c < '0' || c > '9') {
			return false
		}
	}
	return true
}

// maySide tells whether r may be a box's width or height.
func maySide(r api.Rat) bool {
	return rat.May(r) && r.Den > 0 && r.Num >= 0 // Den is 0 of what is over
}

// isHead tells whether a name may begin with c.
func isHead(c byte) bool {
	return 'a' <= c && c <= 'z' || 'A' <= c && c <= 'Z' || c == '_'
}
