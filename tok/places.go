package tok

import (
	"unicode/utf8"

	"jalousie/utf"
)

const (
	end         rune = -1 // what stands behind the last character; no character, so none is taken for it
	replacement rune = 0xFFFD
	maxHex           = 6 // digits of an escape
)

// look tells the character that stands so many places on, or the end.
type look func(place int) rune

// lookFrom looks at l from a place of it on.
func lookFrom(l []rune, at int) look {
	return func(place int) rune {
		if place >= len(l)-at {
			return end
		}
		return character(l[at+place])
	}
}

// behind looks from so many places further on.
func behind(next look, places int) look {
	return func(place int) rune { return next(places + place) }
}

// behindSign looks from behind a + or -, if there is one.
func behindSign(next look) look {
	if isSign(next(0)) {
		return behind(next, 1)
	}
	return next
}

func isEscape(next look) bool {
	return next(0) == '\\' && next(1) != '\n'
}

func nameBegins(next look) bool {
	switch c := next(0); {
	case c == '-':
		return isFirstLetter(next(1)) || next(1) == '-' || isEscape(behind(next, 1))
	case isFirstLetter(c):
		return true
	}
	return isEscape(next)
}

func numberBegins(next look) bool {
	rest := behindSign(next)
	return isDigit(rest(0)) || rest(0) == '.' && isDigit(rest(1))
}

func exponentBegins(next look) bool {
	if next(0) != 'e' && next(0) != 'E' {
		return false
	}
	rest := behindSign(behind(next, 1))
	return isDigit(rest(0))
}

// stands tells whether just these come next.
func stands(next look, signs ...rune) bool {
	for i, c := range signs {
		if next(i) != c {
			return false
		}
	}
	return true
}

// character tells c, or the replacement, if c is no character.
func character(c rune) rune {
	if !utf8.ValidRune(c) {
		return replacement
	}
	return c
}

func isBlank(c rune) bool { return c == '\n' || c == '\t' || c == ' ' }

func isQuote(c rune) bool { return c == '"' || c == '\'' }

func isSign(c rune) bool { return c == '+' || c == '-' }

func isDigit(c rune) bool { return c >= '0' && c <= '9' }

func isFirstLetter(c rune) bool {
	return c >= 'a' && c <= 'z' || c >= 'A' && c <= 'Z' || c == '_' || c >= 0x80
}

func isNameLetter(c rune) bool { return isFirstLetter(c) || isDigit(c) || c == '-' }

func isUnprintable(c rune) bool {
	return c >= 0 && c <= 8 || c == 11 || c >= 14 && c <= 31 || c == 127
}

// hexDigit tells what c stands for to the base 16, if it is such a digit.
func hexDigit(c rune) (rune, bool) {
	switch {
	case isDigit(c):
		return c - '0', true
	case c >= 'a' && c <= 'f':
		return c - 'a' + 10, true
	case c >= 'A' && c <= 'F':
		return c - 'A' + 10, true
	}
	return 0, false
}

func written(l []rune) string { return string(utf.Encode(l)) }

// places is characters, and how many of them are taken. The list is the caller's, with all that is no character in it: looks tell the replacement for that, so that it need not be copied.
type places struct {
	list []rune
	at   int
}

// ahead looks from the first character on that is not taken yet; what is taken later does not move it.
func (p *places) ahead() look { return lookFrom(p.list, p.at) }

func (p *places) next() rune { return p.ahead()(0) }

// skip takes so many characters, or as many as there are.
func (p *places) skip(count int) { p.at = min(p.at+count, len(p.list)) }

func (p *places) take() rune {
	c := p.next()
	p.skip(1)
	return c
}

func (p *places) skipBlanks() {
	for isBlank(p.next()) {
		p.skip(1)
	}
}

func (p *places) skipDigits() {
	for isDigit(p.next()) {
		p.skip(1)
	}
}

func (p *places) skipSign() {
	if isSign(p.next()) {
		p.skip(1)
	}
}

func (p *places) skipRemarks() {
	for stands(p.ahead(), '/', '*') {
		p.skip(2)
		for p.next() != end && !stands(p.ahead(), '*', '/') {
			p.skip(1)
		}
		p.skip(2)
	}
}

// takeNumber takes a number, which begins here, and tells its text.
func (p *places) takeNumber() string {
	from := p.at
	p.skipSign()
	p.skipDigits()
	if next := p.ahead(); next(0) == '.' && isDigit(next(1)) {
		p.skip(1)
		p.skipDigits()
	}
	if exponentBegins(p.ahead()) {
		p.skip(1)
		p.skipSign()
		p.skipDigits()
	}
	return written(p.list[from:p.at])
}

func (p *places) takeName() string {
	var name []rune
	for {
		switch next := p.ahead(); {
		case isNameLetter(next(0)):
			name = append(name, p.take())
		case isEscape(next):
			name = append(name, p.takeEscape())
		default:
			return written(name)
		}
	}
}

// takeEscape takes a valid escape, its \ too, and tells the character that it stands for.
func (p *places) takeEscape() rune {
	p.skip(1)
	if p.next() == end {
		return replacement
	}
	if _, ok := hexDigit(p.next()); !ok {
		return p.take()
	}
	number := p.takeHex()
	if isBlank(p.next()) {
		p.skip(1)
	}
	if number == 0 {
		return replacement
	}
	return character(number)
}

func (p *places) takeHex() rune {
	number := rune(0)
	for range maxHex {
		value, ok := hexDigit(p.next())
		if !ok {
			break
		}
		p.skip(1)
		number = number*16 + value
	}
	return number
}
