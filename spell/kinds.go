package spell

import (
	"strings"

	"jalousie/api"
	"jalousie/rat"
	"jalousie/utf"
)

// delims are the signs that a TDelim may be.
const delims = "#$%&*+-./<=>?@\\^`|~!"

// traits is what all tokens of a kind have in common.
type traits struct {
	text   bool   // Text has a meaning
	named  bool   // Text is a name, so it is not empty
	number bool   // Num and Int have a meaning
	runsOn bool   // may go on with what stands behind it
	joins  bool   // may become a part of what stands ahead of it
	fixed  string // the text, where all of them have the same one
}

// kinds has a row for each kind, by its number.
var kinds = [api.TCloseCurly + 1]traits{
	api.TIdent:       {text: true, named: true, runsOn: true, joins: true},
	api.TFunc:        {text: true, named: true, joins: true},
	api.TAt:          {text: true, named: true, runsOn: true},
	api.THash:        {text: true, named: true, runsOn: true},
	api.TString:      {text: true},
	api.TBadString:   {fixed: "\"\n"},
	api.TUrl:         {text: true, joins: true},
	api.TBadUrl:      {joins: true, fixed: "url(()"},
	api.TDelim:       {text: true, runsOn: true, joins: true},
	api.TNumber:      {number: true, runsOn: true, joins: true},
	api.TPercent:     {number: true, joins: true},
	api.TDim:         {text: true, named: true, number: true, runsOn: true, joins: true},
	api.TSpace:       {fixed: " "},
	api.TCdo:         {fixed: "<!--"},
	api.TCdc:         {joins: true, fixed: "-->"},
	api.TColon:       {fixed: ":"},
	api.TSemi:        {fixed: ";"},
	api.TComma:       {fixed: ","},
	api.TOpenSquare:  {fixed: "["},
	api.TCloseSquare: {fixed: "]"},
	api.TOpenParen:   {joins: true, fixed: "("},
	api.TCloseParen:  {fixed: ")"},
	api.TOpenCurly:   {fixed: "{"},
	api.TCloseCurly:  {fixed: "}"},
}

// traitsOf tells what a kind has: nothing, if there is no such kind.
func traitsOf(kind int) traits {
	if kind < 0 || kind >= len(kinds) {
		return traits{}
	}
	return kinds[kind]
}

// fieldsMay tells whether the fields that t's kind does not use are zero.
func fieldsMay(t api.Token) bool {
	has := traitsOf(t.Kind)
	return (has.text || t.Text == "") &&
		(has.number || t.Num == api.Rat{} && !t.Int) &&
		(t.Kind == api.THash || !t.Id)
}

func textMay(t api.Token) bool {
	switch {
	case t.Kind == api.TDelim:
		return isDelim(t.Text)
	case t.Kind == api.THash && !t.Id && !isNumeric(t.Text):
		return false
	case traitsOf(t.Kind).named && t.Text == "":
		return false
	}
	return isText(t.Text)
}

func numberMay(t api.Token) bool {
	if !traitsOf(t.Kind).number {
		return true
	}
	_, e := rat.Plain(t.Num, t.Int)
	return e == api.OK
}

// isDelim asks for one byte, since all characters that may be have just one.
func isDelim(s string) bool {
	if len(s) != 1 {
		return false
	}
	return strings.Contains(delims, s) || isControl(s[0])
}

// isControl tells whether c is an unprintable character; 0 is none, since bytes are read without it.
func isControl(c byte) bool {
	return c >= 1 && c <= 8 || c == 11 || c >= 14 && c <= 31 || c == 127
}

// isNumeric tells whether s begins as no identifier does: a hash without Id is read so, and no other.
func isNumeric(s string) bool {
	rest := strings.TrimPrefix(s, "-")
	return s == "-" || rest != "" && isDigit(rune(rest[0]))
}

func isText(s string) bool {
	return utf.Whole([]byte(s)) && !strings.Contains(s, "\x00")
}
