package sel

import (
	"jalousie/api"
	"jalousie/rule"
)

// reader knows the pseudo-classes by their names.
type reader struct {
	words     map[string]int // those that are a TIdent
	functions map[string]int // those that are a TFunc
}

func newReader() reader {
	return reader{words: wordKinds(), functions: functionKinds()}
}

func wordKinds() map[string]int {
	return map[string]int{
		"root":        api.SRoot,
		"empty":       api.SEmpty,
		"first-child": api.SFirst,
		"last-child":  api.SLast,
		"only-child":  api.SOnly,
	}
}

func functionKinds() map[string]int {
	return map[string]int{
		"not":            api.SNot,
		"is":             api.SIs,
		"where":          api.SWhere,
		"nth-child":      api.SNth,
		"nth-last-child": api.SLastOf,
	}
}

// list reads a selector list, up to the end. It cuts at the commas as rule.Split does, but on the way: Split copies what it cuts, so of lists in one another each would copy all the inner ones once more. How deep they may go rule.May has asked.
func (r reader) list(c *cursor) ([]api.Complex, bool) {
	var list []api.Complex
	for {
		c.spaces()
		one, ok := r.complex(c)
		if !ok {
			return nil, false
		}
		list = append(list, one)
		if c.done() {
			return list, true
		}
		c.take()
	}
}

// complex reads compounds and combinators, and the TSpace behind them, up to a comma or the end.
func (r reader) complex(c *cursor) (api.Complex, bool) {
	var parts []api.Compound
	comb := api.CNone
	for {
		simples, ok := r.compound(c)
		if !ok {
			return api.Complex{}, false
		}
		parts = append(parts, api.Compound{Comb: comb, Simples: simples})
		spaced := c.spaces()
		if c.done() || c.next().Tok.Kind == api.TComma {
			return api.Complex{Parts: parts}, true
		}
		comb = combinator(c, spaced)
		if comb == api.CNone {
			return api.Complex{}, false
		}
	}
}

// combinator reads one, ahead of which TSpace stood or not; CNone: there is none.
func combinator(c *cursor, spaced bool) int {
	comb := api.CNone
	switch {
	case c.delim(">"):
		comb = api.CChild
	case c.delim("+"):
		comb = api.CNext
	case c.delim("~"):
		comb = api.CLater
	case spaced:
		return api.CDown
	}
	c.spaces()
	return comb
}

func (r reader) compound(c *cursor) ([]api.Simple, bool) {
	var simples []api.Simple
	if c.next().Tok.Kind == api.TIdent {
		tag, ok := named(api.STag, c.take().Tok)
		if !ok {
			return nil, false
		}
		simples = append(simples, tag)
	} else if c.delim("*") {
		simples = append(simples, api.Simple{Kind: api.SAny})
	}
	for beginsSimple(c.next().Tok) {
		s, ok := r.simple(c)
		if !ok {
			return nil, false
		}
		simples = append(simples, s)
	}
	return simples, len(simples) > 0
}

func beginsSimple(t api.Token) bool {
	switch t.Kind {
	case api.THash, api.TOpenSquare, api.TColon:
		return true
	case api.TDelim:
		return t.Text == "."
	}
	return false
}

// simple reads a simple selector of which beginsSimple has seen the first token.
func (r reader) simple(c *cursor) (api.Simple, bool) {
	v := c.take()
	switch v.Tok.Kind {
	case api.THash:
		s, ok := named(api.SId, v.Tok)
		return s, ok && v.Tok.Id
	case api.TOpenSquare:
		return attribute(&cursor{rule.Trim(v.Kids)})
	case api.TColon:
		return r.pseudo(c.take())
	}
	t := c.take().Tok
	s, ok := named(api.SClass, t)
	return s, ok && t.Kind == api.TIdent
}

// named tells a selector of a token's text, if that may be a Name: raw tokens may hold any bytes.
func named(kind int, t api.Token) (api.Simple, bool) {
	return api.Simple{Kind: kind, Name: t.Text}, isName(t.Text)
}

// pseudo reads what stands behind a TColon.
func (r reader) pseudo(v api.Value) (api.Simple, bool) {
	name := lower(v.Tok.Text)
	switch v.Tok.Kind {
	case api.TIdent:
		kind, ok := r.words[name]
		return api.Simple{Kind: kind}, ok
	case api.TFunc:
		return r.function(r.functions[name], v.Kids)
	}
	return api.Simple{}, false
}

func (r reader) function(kind int, kids []api.Value) (api.Simple, bool) {
	s, ok := api.Simple{Kind: kind}, false
	switch kind {
	case api.SNot, api.SIs, api.SWhere:
		s.List, ok = r.list(&cursor{kids})
	case api.SNth, api.SLastOf:
		s.A, s.B, ok = step(&cursor{rule.Trim(kids)})
	}
	return s, ok
}

// attribute reads what stands in a TOpenSquare, trimmed.
func attribute(c *cursor) (api.Simple, bool) {
	t := c.take().Tok
	s, ok := named(api.SAttr, t)
	if !ok || t.Kind != api.TIdent {
		return api.Simple{}, false
	}
	if c.done() {
		return s, true
	}
	c.spaces()
	s.Op = operator(c)
	c.spaces()
	s.Value, ok = valueText(c.take().Tok)
	if !ok || s.Op == api.OpHas {
		return api.Simple{}, false
	}
	s.Fold, ok = fold(c)
	return s, ok
}

// valueText tells the Value that a token is.
func valueText(t api.Token) (string, bool) {
	if t.Kind != api.TIdent && t.Kind != api.TString {
		return "", false
	}
	return t.Text, isText(t.Text)
}

// operator tells OpHas, if there is none.
func operator(c *cursor) int {
	op := api.OpIs
	switch {
	case c.delim("~"):
		op = api.OpWord
	case c.delim("|"):
		op = api.OpDash
	case c.delim("^"):
		op = api.OpBegins
	case c.delim("$"):
		op = api.OpEnds
	case c.delim("*"):
		op = api.OpIn
	}
	if !c.delim("=") {
		return api.OpHas
	}
	return op
}

// fold reads nothing, i or s up to the end: is it an i?
func fold(c *cursor) (folds, ok bool) {
	if c.done() {
		return false, true
	}
	c.spaces()
	t := c.take().Tok
	word := lower(t.Text)
	return word == "i", c.done() && t.Kind == api.TIdent && (word == "i" || word == "s")
}
