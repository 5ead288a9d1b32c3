package sel

import (
	"fmt"
	"math/rand"
	"reflect"
	"regexp"
	"slices"
	"strconv"
	"strings"
	"testing"
	"unicode/utf8"

	"jalousie/api"
	"jalousie/rule"
	"jalousie/spell"
)

// A second reading of the chapter, against which the program is held: values become letters, of which regular expressions say what the grammar says.

const (
	plainSimple   = `(?:#|\.i|\[|:i|:f)`
	plainCompound = `(?:[i*]` + plainSimple + `*|` + plainSimple + `+)`
	plainComb     = `(?:s*[>+~]s*|s+)`
)

var (
	complexForm  = regexp.MustCompile(`^` + plainCompound + `(?:` + plainComb + plainCompound + `)*$`)
	compoundForm = regexp.MustCompile(`^` + plainCompound)
	combForm     = regexp.MustCompile(`^` + plainComb)
	simpleForm   = regexp.MustCompile(`^(?:[i*]|` + plainSimple + `)`)
	attrForm     = regexp.MustCompile(`^i(?:s*([~|^$*]?=)s*([iS])(?:s*(i))?)?$`)
	oneStep      = regexp.MustCompile(`^<(-?\d+)>$`)
	longStep     = regexp.MustCompile(`^(?:d<(-?\d+)>|)'(-?)n(?:|_*<(-?\d+)>|_*\{([+-])\}_*<(\d+)>)$`)
	nameStep     = regexp.MustCompile(`^(?:d<(-?\d+)>|)'(-?)n-(\d{1,10})$`)
	plainLetters = regexp.MustCompile(`^[a-z0-9-]+$`)
)

func plainSign(v api.Value) string {
	switch v.Tok.Kind {
	case api.TSpace:
		return "s"
	case api.TIdent:
		return "i"
	case api.TString:
		return "S"
	case api.TOpenSquare:
		return "["
	case api.TColon:
		return ":"
	case api.TFunc:
		return "f"
	case api.THash:
		if v.Tok.Id {
			return "#"
		}
	case api.TDelim:
		if len(v.Tok.Text) == 1 && strings.Contains("*.>+~|^$=", v.Tok.Text) {
			return v.Tok.Text
		}
	}
	return "x"
}

func plainSigns(l []api.Value) (s string) {
	for _, v := range l {
		s += plainSign(v)
	}
	return s
}

func plainWhole(s string) bool { return utf8.ValidString(s) && !strings.Contains(s, "\x00") }

func plainLower(s string) string {
	return strings.Map(func(c rune) rune {
		if 'A' <= c && c <= 'Z' {
			return c + 32
		}
		return c
	}, s)
}

func plainParse(l []api.Value) (told []api.Complex, ok bool) {
	for _, piece := range rule.Split(l) {
		c, ok := plainComplex(piece)
		if !ok {
			return nil, false
		}
		told = append(told, c)
	}
	return told, true
}

func plainComplex(l []api.Value) (c api.Complex, ok bool) {
	if !complexForm.MatchString(plainSigns(l)) {
		return c, false
	}
	combs := map[string]int{"": 0, ">": 2, "+": 3, "~": 4}
	comb := 0
	for {
		n := compoundForm.FindStringIndex(plainSigns(l))[1]
		var simples []api.Simple
		for rest := l[:n]; len(rest) > 0; {
			k := simpleForm.FindStringIndex(plainSigns(rest))[1]
			s, ok := plainOne(rest[:k])
			if !ok {
				return api.Complex{}, false
			}
			simples, rest = append(simples, s), rest[k:]
		}
		c.Parts = append(c.Parts, api.Compound{Comb: comb, Simples: simples})
		if l = l[n:]; len(l) == 0 {
			return c, true
		}
		n = combForm.FindStringIndex(plainSigns(l))[1]
		comb = combs[strings.Trim(plainSigns(l[:n]), "s")]
		if comb == 0 {
			comb = 1
		}
		l = l[n:]
	}
}

func plainOne(l []api.Value) (s api.Simple, ok bool) {
	last := l[len(l)-1]
	text := last.Tok.Text
	switch signs := plainSigns(l); signs {
	case "*":
		return api.Simple{Kind: 1}, true
	case "i", ".i", "#":
		return api.Simple{Kind: map[string]int{"i": 2, ".i": 3, "#": 4}[signs], Name: text}, text != "" && plainWhole(text)
	case "[":
		return plainAttr(rule.Trim(last.Kids))
	case ":i":
		kind := slices.Index([]string{"root", "empty", "first-child", "last-child", "only-child"}, plainLower(text))
		return api.Simple{Kind: 9 + kind}, kind >= 0
	}
	switch kind := slices.Index([]string{"not", "is", "where", "nth-child", "nth-last-child"}, plainLower(text)); kind {
	case 0, 1, 2:
		s.Kind = 6 + kind
		s.List, ok = plainParse(last.Kids)
	case 3, 4:
		s.Kind = 11 + kind
		s.A, s.B, ok = plainStep(rule.Trim(last.Kids))
	}
	return s, ok
}

func plainAttr(l []api.Value) (s api.Simple, ok bool) {
	signs := plainSigns(l)
	m := attrForm.FindStringSubmatchIndex(signs)
	if m == nil {
		return s, false
	}
	s.Kind, s.Name = 5, l[0].Tok.Text
	if m[2] >= 0 {
		s.Op = 1 + slices.Index([]string{"=", "~=", "|=", "^=", "$=", "*="}, signs[m[2]:m[3]])
		s.Value = l[m[4]].Tok.Text
	}
	if m[6] >= 0 {
		flag := plainLower(l[m[6]].Tok.Text)
		if s.Fold = flag == "i"; flag != "i" && flag != "s" {
			return s, false
		}
	}
	return s, s.Name != "" && plainWhole(s.Name) && plainWhole(s.Value)
}

func plainStep(l []api.Value) (a, b int, ok bool) {
	text := ""
	for _, v := range l {
		number, name := "?", "?"
		if v.Tok.Int && v.Tok.Num.Den == 1 && v.Tok.Num.Num <= 1<<30 && v.Tok.Num.Num >= -1<<30 {
			number = fmt.Sprintf("<%d>", v.Tok.Num.Num)
		}
		if s := plainLower(v.Tok.Text); plainLetters.MatchString(s) {
			name = "'" + s
		}
		switch {
		case v.Tok.Kind == api.TSpace:
			text += "_"
		case v.Tok.Kind == api.TNumber:
			text += number
		case v.Tok.Kind == api.TDim:
			text += "d" + number + name
		case v.Tok.Kind == api.TIdent:
			text += name
		case v.Tok.Kind == api.TDelim && (v.Tok.Text == "+" || v.Tok.Text == "-"):
			text += "{" + v.Tok.Text + "}"
		default:
			text += "?"
		}
	}
	return plainForms(text)
}

func plainForms(text string) (a, b int, ok bool) {
	if text == "'odd" || text == "'even" {
		return 2, map[string]int{"'odd": 1}[text], true
	}
	of := func(s string) int { n, _ := strconv.Atoi(s); return n }
	if m := oneStep.FindStringSubmatch(text); m != nil {
		return 0, of(m[1]), true
	}
	first := func(m []string) (int, bool) {
		if m[1] == "" {
			return of(m[2] + "1"), true
		}
		return of(m[1]), m[2] == ""
	}
	if m := longStep.FindStringSubmatch(text); m != nil {
		a, ok = first(m)
		return a, of(m[3] + m[4] + m[5]), ok
	}
	if m := nameStep.FindStringSubmatch(text); m != nil {
		a, ok = first(m)
		return a, -of(m[3]), ok && of(m[3]) <= 1<<30
	}
	return 0, 0, false
}

// plainMay asks with how many blocks may still stand in one another.
func plainMay(l []api.Complex, left int) bool {
	ok := len(l) > 0
	for _, c := range l {
		ok = ok && len(c.Parts) > 0
		for i, part := range c.Parts {
			ok = ok && len(part.Simples) > 0 && (part.Comb == 0) == (i == 0) && part.Comb >= 0 && part.Comb <= 4
			for j, s := range part.Simples {
				ok = ok && plainMaySimple(s, left) && (j == 0 || s.Kind > 2)
			}
		}
	}
	return ok
}

func plainMaySimple(s api.Simple, left int) bool {
	name := s.Name != "" && plainWhole(s.Name)
	if len(s.List) == 0 {
		s.List = nil
	}
	switch s.Kind {
	case 1, 9, 10, 11, 12, 13:
		return reflect.DeepEqual(s, api.Simple{Kind: s.Kind})
	case 2, 3, 4:
		return reflect.DeepEqual(s, api.Simple{Kind: s.Kind, Name: s.Name}) && name
	case 5:
		if s.Op == 0 && (s.Value != "" || s.Fold) {
			return false
		}
		return left > 0 && reflect.DeepEqual(s, api.Simple{Kind: 5, Name: s.Name, Op: s.Op, Value: s.Value, Fold: s.Fold}) && name && s.Op >= 0 && s.Op <= 6 && plainWhole(s.Value)
	case 6, 7, 8:
		return left > 0 && reflect.DeepEqual(s, api.Simple{Kind: s.Kind, List: s.List}) && plainMay(s.List, left-1)
	case 14, 15:
		return left > 0 && reflect.DeepEqual(s, api.Simple{Kind: s.Kind, A: s.A, B: s.B}) && max(s.A, s.B) <= 1<<30 && min(s.A, s.B) >= -1<<30
	}
	return false
}

func plainText(l []api.Complex) string {
	var texts []string
	for _, c := range l {
		text := ""
		for _, part := range c.Parts {
			text += []string{"", " ", " > ", " + ", " ~ "}[part.Comb]
			for _, s := range part.Simples {
				text += plainTextOne(s)
			}
		}
		texts = append(texts, text)
	}
	return strings.Join(texts, ", ")
}

func plainTextOne(s api.Simple) string {
	name, _ := spell.Token(api.Token{Kind: api.TIdent, Text: s.Name})
	value, _ := spell.Token(api.Token{Kind: api.TString, Text: s.Value})
	if s.Op == 0 {
		value = ""
	}
	if s.Fold {
		value += " i"
	}
	step := fmt.Sprintf("%dn%+d", s.A, s.B)
	if s.B == 0 {
		step = fmt.Sprintf("%dn", s.A)
	}
	if s.A == 0 {
		step = fmt.Sprint(s.B)
	}
	inner := plainText(s.List)
	op := []string{"", "=", "~=", "|=", "^=", "$=", "*="}[s.Op]
	return []string{1: "*", 2: name, 3: "." + name, 4: "#" + name, 5: "[" + name + op + value + "]",
		6: ":not(" + inner + ")", 7: ":is(" + inner + ")", 8: ":where(" + inner + ")",
		9: ":root", 10: ":empty", 11: ":first-child", 12: ":last-child", 13: ":only-child",
		14: ":nth-child(" + step + ")", 15: ":nth-last-child(" + step + ")"}[s.Kind]
}

func plainWeight(c api.Complex) (w api.Weight) {
	for _, part := range c.Parts {
		for _, s := range part.Simples {
			switch s.Kind {
			case 1, 8:
			case 2:
				w[2]++
			case 4:
				w[0]++
			case 6, 7:
				var most api.Weight
				for _, c := range s.List {
					if one := plainWeight(c); slices.Compare(one[:], most[:]) > 0 {
						most = one
					}
				}
				w = api.Weight{w[0] + most[0], w[1] + most[1], w[2] + most[2]}
			default:
				w[1]++
			}
		}
	}
	return w
}

// heldAgainst: Parse of l is what the second reading tells, and what it tells is read again.
func heldAgainst(t *testing.T, l []api.Value) {
	t.Helper()
	got, e := Parse(l)
	want, ok := plainParse(l)
	if (e == api.OK) != ok || !ok && e != api.ErrSyntax || ok && !reflect.DeepEqual(got, want) || !ok && got != nil {
		t.Fatalf("%+v: %+v %d, not %+v %v", l, got, e, want, ok)
	}
	if ok {
		again(t, l, got)
	}
}

// each: all lists of up to n of these values.
func each(of []api.Value, n int, do func([]api.Value)) {
	var grow func(l []api.Value)
	grow = func(l []api.Value) {
		do(l)
		if len(l) == n {
			return
		}
		for _, v := range of {
			grow(append(l, v))
		}
	}
	grow(make([]api.Value, 0, n))
}

// one: the only value of a text.
func one(s string) api.Value { return values(s)[0] }

func ones(l ...string) (told []api.Value) {
	for _, s := range l {
		told = append(told, one(s))
	}
	return told
}

// P9.1: all short lists.
func TestPlainLists(t *testing.T) {
	each(ones("a", "*", ".", "#a", " ", ">", "~", ",", ":", "root", "not(a)", "[a]"), 5, func(l []api.Value) { heldAgainst(t, l) })
	each(ones("a", "ROOT", "only-child", "#1", " ", "+", ",", ":", ":", "nth-child(n)", "Is(a >b,c)", "where()", "nth-last-child(x)", "[a=1]", "[a|=B i]", "1", "|", ".", "(", ")", "{", ";", "\"a\"", "@a", "1px", "a("), 3, func(l []api.Value) { heldAgainst(t, l) })
	each(ones("a", "*", ".", "#a", " ", "+", ":", "root"), 6, func(l []api.Value) { heldAgainst(t, l) })
}

// P9.1: all short attributes.
func TestPlainAttributes(t *testing.T) {
	each(ones("a", "i", " ", "=", "~", "$", "\"b\"", "1"), 6, func(l []api.Value) { heldAgainst(t, raw(rawBlock(l...))) })
	each(ones("a", "S", " ", "=", "~", "|", "^", "$", "*", "\"i\"", "x", ",", "[]", "1", "+", "#i"), 4, func(l []api.Value) { heldAgainst(t, raw(rawBlock(l...))) })
	each(ones("i", "I", "s", " ", "'s'"), 5, func(l []api.Value) {
		heldAgainst(t, raw(rawBlock(append(ones("a", "*", "=", "b"), l...)...)))
	})
}

// P9.1: all short steps.
func TestPlainSteps(t *testing.T) {
	each(ones("n", "-N", "2n", "odd", " ", "+", "-", "3", "-3", "n-12", "-5n-6"), 5, func(l []api.Value) { heldAgainst(t, rawOf("nth-child", l...)) })
	each(ones("N", "-n", "-1N", "even", "Odd", " ", "-", "+", "0", "1073741825", "1073741824", "-1073741824", "1073741825n", "1.0", "1.5n", "-n-1073741824", "n-1073741825", "n-", "2n-", "n--1", "2n-00000000001", "2n-0000000001", "*", "\"n\"", "n()", "m", "1%"), 3, func(l []api.Value) { heldAgainst(t, rawOf("nth-last-child", l...)) })
}

// P9.1, P9.6: texts by chance, of pieces that selectors are made of.
func TestPlainTexts(t *testing.T) {
	r := rand.New(rand.NewSource(9))
	pieces := strings.Split("a|b|*|.c|.|#d|#1| | |  |>|+|~|,|, |:root|:empty|:first-child|:LAST-child|:only-child|:hover|::|:not(|:is(|:Where(|)|)|)|:nth-child(|:nth-last-child(|2n|-n|n|+1|-1| + 3|odd|even|7|n-4|[a]|[a=b]|[|]|~=|=|^=|$='x'|*=\"y\" i]| i]| s]|/**/|\\31 |é|(|{|}|;|1.5|\"", "|")
	good := 0
	for range 60000 {
		var b strings.Builder
		for range 1 + r.Intn(9) {
			b.WriteString(pieces[r.Intn(len(pieces))])
		}
		l := values(b.String())
		heldAgainst(t, l)
		if _, ok := plainParse(l); ok {
			good++
		}
	}
	if good < 3000 {
		t.Errorf("%d of them are lists", good)
	}
}

// chance makes lists by chance that may be, but for a fault here and there.
type chance struct {
	*rand.Rand
	fault int // one in so many; 0: none
}

func (r chance) wrong() bool { return r.fault > 0 && r.Intn(r.fault) == 0 }

func (r chance) number(high int) int {
	if r.wrong() {
		return []int{-1, high + 1, 99}[r.Intn(3)]
	}
	return r.Intn(high + 1)
}

func (r chance) text() string {
	if r.wrong() {
		return bad[r.Intn(len(bad))]
	}
	s := good[r.Intn(len(good))]
	for r.Intn(3) == 0 {
		s += good[r.Intn(len(good))]
	}
	return s
}

func (r chance) step() int {
	if r.wrong() {
		return []int{api.MaxStep + 1, -api.MaxStep - 1}[r.Intn(2)]
	}
	return []int{0, 1, -1, 7, -12, api.MaxStep, -api.MaxStep, r.Intn(1 << 20)}[r.Intn(8)]
}

func (r chance) simple(first bool, depth int) (s api.Simple) {
	s.Kind = 3 + r.Intn(13)
	if first && r.Intn(2) == 0 || r.wrong() {
		s.Kind = 1 + r.Intn(2)
	}
	if r.wrong() {
		s.Kind = r.Intn(20)
	}
	switch s.Kind {
	case api.STag, api.SClass, api.SId:
		s.Name = r.text()
	case api.SAttr:
		s.Name, s.Op = r.text(), r.number(6)
		if s.Op != api.OpHas || r.wrong() {
			s.Value, s.Fold = r.text(), r.Intn(2) == 0
		}
	case api.SNot, api.SIs, api.SWhere:
		if depth > 4 {
			return api.Simple{Kind: api.SRoot}
		}
		s.List = r.list(depth + 1)
	case api.SNth, api.SLastOf:
		s.A, s.B = r.step(), r.step()
	}
	if r.wrong() {
		other := r.simple(first, depth)
		other.Kind = s.Kind
		return other
	}
	return s
}

func (r chance) list(depth int) (l []api.Complex) {
	for len(l) == 0 || r.Intn(3) == 0 {
		if r.wrong() {
			return l
		}
		var c api.Complex
		for len(c.Parts) == 0 || r.Intn(3) == 0 {
			part := api.Compound{}
			if len(c.Parts) > 0 {
				part.Comb = 1 + r.number(3)
			}
			if r.wrong() {
				part.Comb = r.number(4)
			}
			for !r.wrong() && (len(part.Simples) == 0 || r.Intn(3) == 0) {
				part.Simples = append(part.Simples, r.simple(len(part.Simples) == 0, depth))
			}
			c.Parts = append(c.Parts, part)
		}
		l = append(l, c)
	}
	return l
}

// P9.2, P9.3, P9.4, P9.6, P9.7: raw lists by chance.
func TestPlainRaw(t *testing.T) {
	counts := map[bool]int{}
	for _, fault := range []int{0, 60, 15} {
		r := chance{rand.New(rand.NewSource(int64(fault))), fault}
		for range 12000 {
			l := r.list(1)
			want := plainMay(l, 64)
			counts[want]++
			if May(l) != want || fault == 0 && !want {
				t.Fatalf("%+v: %v", l, !want)
			}
			text, e := Text(l)
			if want != (e == api.OK) || want && text != plainText(l) || !want && (e != api.ErrArg || text != "") {
				t.Fatalf("%+v: %q %d", l, text, e)
			}
			if want {
				again(t, text, l)
			}
			for _, c := range l {
				want := plainMay([]api.Complex{c}, 64)
				w, e := Weigh(c)
				if want && (e != api.OK || w != plainWeight(c)) || !want && (e != api.ErrArg || w != api.Weight{}) {
					t.Fatalf("%+v: %v %d", c, w, e)
				}
			}
		}
	}
	if counts[true] < 12000 || counts[false] < 5000 {
		t.Error(counts)
	}
}
