package spell

import (
	"strconv"
	"strings"

	"jalousie/api"
	"jalousie/rat"
)

// byteMark is a hidden character: at the front of a text it would not be read at all.
const byteMark rune = 0xFEFF

// writeToken writes a token that may be.
func writeToken(b *strings.Builder, t api.Token) {
	switch t.Kind {
	case api.TIdent:
		writeIdent(b, t.Text)
	case api.TFunc:
		writeIdent(b, t.Text)
		b.WriteByte('(')
	case api.TAt:
		b.WriteByte('@')
		writeIdent(b, t.Text)
	case api.THash:
		writeHash(b, t)
	case api.TString:
		writeString(b, t.Text)
	case api.TUrl:
		writeUrl(b, t.Text)
	case api.TDelim:
		writeDelim(b, t.Text)
	case api.TNumber:
		writeNumber(b, t)
	case api.TPercent:
		writeNumber(b, t)
		b.WriteByte('%')
	case api.TDim:
		writeNumber(b, t)
		writeUnit(b, t.Text)
	default:
		b.WriteString(traitsOf(t.Kind).fixed)
	}
}

func writeHash(b *strings.Builder, t api.Token) {
	b.WriteByte('#')
	if t.Id {
		writeIdent(b, t.Text)
	} else {
		writeName(b, t.Text)
	}
}

// writeDelim writes a line feed behind a \, without which that would be an escape.
func writeDelim(b *strings.Builder, s string) {
	b.WriteString(s)
	if s == "\\" {
		b.WriteByte('\n')
	}
}

func writeNumber(b *strings.Builder, t api.Token) {
	s, _ := rat.Plain(t.Num, t.Int)
	b.WriteString(s)
}

// writeUnit hides the e of a unit that would be read as the number's exponent.
func writeUnit(b *strings.Builder, s string) {
	if !isExponent(s) {
		writeIdent(b, s)
		return
	}
	writeEscape(b, rune(s[0]))
	writeName(b, s[1:])
}

// isExponent tells whether s would go on with a number ahead of it. (A + is none here: it has a \ ahead.)
func isExponent(s string) bool {
	if s[0] != 'e' && s[0] != 'E' {
		return false
	}
	digits := strings.TrimPrefix(s[1:], "-")
	return digits != "" && isDigit(rune(digits[0]))
}

// writeIdent writes a name so that it begins as an identifier must.
func writeIdent(b *strings.Builder, s string) {
	if s == "-" {
		b.WriteString(`\-`)
		return
	}
	for i, c := range s {
		if isDigit(c) && (i == 0 || i == 1 && s[0] == '-') {
			writeEscape(b, c)
		} else {
			writeLetter(b, c)
		}
	}
}

func writeName(b *strings.Builder, s string) {
	for _, c := range s {
		writeLetter(b, c)
	}
}

func writeLetter(b *strings.Builder, c rune) {
	switch {
	case isHidden(c):
		writeEscape(b, c)
	case isNameLetter(c):
		b.WriteRune(c)
	default:
		writeSlashed(b, c)
	}
}

func writeString(b *strings.Builder, s string) {
	b.WriteByte('"')
	for _, c := range s {
		switch {
		case c == '"' || c == '\\':
			writeSlashed(b, c)
		case isHidden(c):
			writeEscape(b, c)
		default:
			b.WriteRune(c)
		}
	}
	b.WriteByte('"')
}

func writeUrl(b *strings.Builder, s string) {
	b.WriteString("url(")
	for _, c := range s {
		switch {
		case isHidden(c) || c == ' ':
			writeEscape(b, c)
		case strings.ContainsRune(`"'()\`, c):
			writeSlashed(b, c)
		default:
			b.WriteRune(c)
		}
	}
	b.WriteByte(')')
}

// writeEscape writes c by its number; the space ends the number, whatever comes behind it.
func writeEscape(b *strings.Builder, c rune) {
	b.WriteByte('\\')
	b.WriteString(strconv.FormatInt(int64(c), 16))
	b.WriteByte(' ')
}

func writeSlashed(b *strings.Builder, c rune) {
	b.WriteByte('\\')
	b.WriteRune(c)
}

func isHidden(c rune) bool { return c >= 1 && c <= 31 || c == 127 || c == byteMark }

func isDigit(c rune) bool { return c >= '0' && c <= '9' }

// isNameLetter tells whether c is a name's letter (chapter 3).
func isNameLetter(c rune) bool {
	return c >= 'a' && c <= 'z' || c >= 'A' && c <= 'Z' || isDigit(c) || c == '_' || c == '-' || c >= 0x80
}
