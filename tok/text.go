package tok

import "jalousie/api"

// stringToken takes a string, from the sign on that it begins with.
func (r *reader) stringToken() api.Token {
	sign := r.take()
	var text []rune
	for {
		switch c := r.next(); c {
		case sign, end:
			r.skip(1)
			return api.Token{Kind: api.TString, Text: written(text)}
		case '\n':
			return api.Token{Kind: api.TBadString}
		case '\\':
			text = r.appendStringEscape(text)
		default:
			text = append(text, r.take())
		}
	}
}

// appendStringEscape takes a \ of a string with what belongs to it: unlike elsewhere, one ahead of a line feed or of the end stands for nothing.
func (r *reader) appendStringEscape(text []rune) []rune {
	switch r.ahead()(1) {
	case end:
		r.skip(1)
		return text
	case '\n':
		r.skip(2)
		return text
	}
	return append(text, r.takeEscape())
}

// isUrl tells whether a name is url, by letters alike.
func isUrl(name string) bool {
	if len(name) != 3 {
		return false
	}
	u, r, l := name[0], name[1], name[2]
	return (u == 'u' || u == 'U') && (r == 'r' || r == 'R') && (l == 'l' || l == 'L')
}

// comesQuote takes all blanks but the last, and tells whether a string begins then: a url with one is a function.
func (r *reader) comesQuote() bool {
	for isBlank(r.next()) && isBlank(r.ahead()(1)) {
		r.skip(1)
	}
	next := r.ahead()
	return isQuote(next(0)) || isBlank(next(0)) && isQuote(next(1))
}

// urlToken takes a url, from behind its bracket on.
func (r *reader) urlToken() api.Token {
	r.skipBlanks()
	var text []rune
	for {
		next := r.ahead()
		switch c := next(0); {
		case endsUrl(c):
			r.skip(1)
			return api.Token{Kind: api.TUrl, Text: written(text)}
		case isBlank(c):
			r.skipBlanks()
			if !endsUrl(r.next()) {
				return r.badUrlToken()
			}
		case isEscape(next):
			text = append(text, r.takeEscape())
		case isBarredInUrl(c):
			return r.badUrlToken()
		default:
			text = append(text, r.take())
		}
	}
}

func endsUrl(c rune) bool { return c == ')' || c == end }

// isBarredInUrl: a \ here is one that is no valid escape.
func isBarredInUrl(c rune) bool {
	return isQuote(c) || c == '(' || c == '\\' || isUnprintable(c)
}

// badUrlToken takes the rest of a bad url. An escaped bracket does not end it.
func (r *reader) badUrlToken() api.Token {
	for {
		next := r.ahead()
		switch {
		case endsUrl(next(0)):
			r.skip(1)
			return api.Token{Kind: api.TBadUrl}
		case isEscape(next):
			r.takeEscape()
		default:
			r.skip(1)
		}
	}
}
