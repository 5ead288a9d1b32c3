package prop

import (
	"math/rand"
	"reflect"
	"regexp"
	"strings"
	"testing"
	"unicode"

	"jalousie/api"
	"jalousie/calc"
	"jalousie/rule"
	"jalousie/tok"
)

// A second reading of the chapter, against which the program is held: tokens become letters, of which regular expressions take away, from the innermost on, what is closed; what is left tells.

var (
	useForm   = regexp.MustCompile(`Vs*Cs*(?:,([^][(){}FVB]*))?\)`)
	boxForm   = regexp.MustCompile(`([F(][^][(){}FVB]*\)|\[[^][(){}FVB]*\]|\{[^][(){}FVB]*\})`)
	wrongForm = regexp.MustCompile(`V[^][(){}FVB]*\)`)
	wideForm  = regexp.MustCompile(`^(?i:inherit|initial|unset)$`)
	varForm   = regexp.MustCompile(`^[vV][aA][rR]$`)
	plainName = regexp.MustCompile(`(?s)^--.+$`)
)

var signs = map[int]string{api.TBadString: "B", api.TBadUrl: "B", api.TSpace: "s", api.TSemi: ";", api.TComma: ",", api.TOpenSquare: "[", api.TCloseSquare: "]", api.TOpenParen: "(", api.TCloseParen: ")", api.TOpenCurly: "{", api.TCloseCurly: "}"}

// signsOf: a letter for each token.
func signsOf(l []api.Token) string {
	var b strings.Builder
	for _, t := range l {
		switch sign := signs[t.Kind]; {
		case sign != "":
			b.WriteString(sign)
		case t.Kind == api.TIdent && plainName.MatchString(t.Text):
			b.WriteString("C")
		case t.Kind == api.TIdent:
			b.WriteString("i")
		case t.Kind == api.TFunc && varForm.MatchString(t.Text):
			b.WriteString("V")
		case t.Kind == api.TFunc:
			b.WriteString("F")
		default:
			b.WriteString("x")
		}
	}
	return b.String()
}

// mark: what is left of something closed: a wrong use in it, a use in it, or neither.
func mark(s, without string) string {
	switch {
	case strings.Contains(s, "W"):
		return "W"
	case strings.Contains(s, "u"):
		return "u"
	}
	return without
}

// left: the letters of l, once what is closed is taken away.
func left(l []api.Value) string {
	s := signsOf(rule.Flat(l))
	for {
		was := s
		s = useForm.ReplaceAllStringFunc(s, func(use string) string { return mark(use, "u") })
		s = boxForm.ReplaceAllStringFunc(s, func(box string) string { return mark(box, "x") })
		if s == was {
			s = wrongForm.ReplaceAllString(s, "W")
		}
		if s == was {
			return s
		}
	}
}

func plainDepth(l []api.Value) (deep int, ok bool) {
	ok = true
	for _, v := range l {
		inner, good := plainDepth(v.Kids)
		ok = ok && good && v.Tok.Kind > 0 && v.Tok.Kind < 25
		if strings.Contains("[({F", signsOf([]api.Token{{Kind: v.Tok.Kind}})) {
			inner++
		} else {
			ok = ok && len(v.Kids) == 0
		}
		deep = max(deep, inner)
	}
	return deep, ok
}

func plainParse(name string, l []api.Value) (api.Val, api.Errno) {
	var p api.Prop
	for _, q := range facts() {
		if q.Name == name {
			p = q
		}
	}
	custom := plainName.MatchString(name)
	if p.Name == "" && !custom {
		return api.Val{}, api.ErrName
	}
	if deep, ok := plainDepth(l); !ok || deep > api.MaxNest {
		return api.Val{}, api.ErrArg
	}
	rest := left(l)
	if strings.ContainsAny(rest, "B)]};W") {
		return api.Val{}, api.ErrSyntax
	}
	flat := rule.Flat(rule.Trim(l))
	word := ""
	if alone := strings.Trim(rest, "s"); alone == "i" || alone == "C" {
		word = flat[0].Text
	}
	if wideForm.MatchString(word) && !strings.ContainsFunc(word, isWideLetter) {
		return api.Val{Kind: api.VWide, Word: strings.ToLower(word)}, api.OK
	}
	if custom || strings.Contains(rest, "u") {
		return api.Val{Kind: api.VVars, Tokens: flat}, api.OK
	}
	for _, w := range p.Words {
		if strings.EqualFold(w, word) && !strings.ContainsFunc(word, isWideLetter) {
			return api.Val{Kind: api.VWord, Word: w}, api.OK
		}
	}
	return plainExpr(p, l, flat)
}

// isWideLetter: what the library folds, and the chapter doesn't.
func isWideLetter(c rune) bool { return c > unicode.MaxASCII }

func plainExpr(p api.Prop, l []api.Value, flat []api.Token) (api.Val, api.Errno) {
	if p.Kind == api.PLength && len(flat) == 1 && flat[0].Kind == api.TNumber && flat[0].Num == frac(0, 1) {
		return sized(frac(0, 1), api.UPx), api.OK
	}
	e, why := calc.Parse(l)
	kind, whyNone := calc.Kind(e)
	fits := p.Kind == api.PLength && kind == api.KLength || p.Kind == api.PNumber && kind == api.KNumber
	low := e.Kind == api.ENum && e.Num.Num < 0 && e.Num.Den > 0
	if why != api.OK || whyNone != api.OK || !fits || low && !p.Low {
		return api.Val{}, api.ErrSyntax
	}
	return api.Val{Kind: api.VExpr, Expr: e}, api.OK
}

// dice makes texts and values of a seed.
type dice struct{ *rand.Rand }

func roll(seed int64) dice { return dice{rand.New(rand.NewSource(seed))} }

func (d dice) one(l []string) string { return l[d.Intn(len(l))] }

// cased: s with some of its letters in capitals.
func (d dice) cased(s string) string {
	if d.Intn(3) > 0 {
		return s
	}
	return strings.Map(func(c rune) rune {
		if d.Intn(2) == 0 && c < unicode.MaxASCII {
			return unicode.ToUpper(c)
		}
		return c
	}, s)
}

var (
	wordTexts  = strings.Fields("auto red blue none grid start center visible hidden inherit initial unset inherit foo --a --b -- var ſtart calc")
	sizeTexts  = strings.Fields("0 0 1 -1 .5 -0 2.5 1e99 -1e99 0px 1px -1px 2em -3rem 4vw -.5vh 5cqw 6cqh 1s 5% 1x")
	brokenOnes = []string{")", "]", "}", ";", "\"x\n", "url(a b)", "'\n"}
	otherTexts = []string{"+", "-", "*", "/", ",", ":", "!", "#a", "#1", "@b", "\"c\"", "url(d)", "<!--", "-->", "\\\n", "."}
)

// calculation: an expression, or what is nearly one.
func (d dice) calculation(deep int) string {
	if deep == 0 {
		return d.one(sizeTexts)
	}
	a, b := d.calculation(deep-1), d.calculation(deep-1)
	return d.one([]string{"calc(" + a + " + " + b + ")", "calc(" + a + " * " + b + ")", "calc(" + a + " - (" + b + "))", "calc(" + a + ")", "calc((" + a + "))", "min(" + a + ", " + b + ")", "max(" + a + ")", "clamp(" + a + "," + b + "," + a + ")", a, a + " " + b, "calc(" + a + "+" + b + ")"})
}

// use: one that may be, or nearly.
func (d dice) use(deep int) string {
	s := d.one([]string{"", "", " ", "/**/"}) + d.one([]string{"--a", "--b", "--A", "---", "--é", "--a", "--b", "--a", "--b", "--", "a", "1", "", "(--a)"}) + d.one([]string{"", "", " ", " /**/ "})
	switch d.Intn(6) {
	case 0:
		s += "," + d.text(deep)
	case 1:
		s += ", " + d.text(deep) + " "
	case 2:
		s += d.one([]string{",", "b", ";", "1", "(x)", ",,", "!", ", "})
	}
	return d.cased("var") + "(" + s + ")"
}

// piece: one component value, as a rule.
func (d dice) piece(deep int) string {
	switch n := d.Intn(60); {
	case n < 12:
		return d.cased(d.one(wordTexts))
	case n < 20:
		return d.cased(d.one(sizeTexts))
	case n < 30:
		return d.cased(d.calculation(d.Intn(3)))
	case n < 40:
		return d.use(deep - 1)
	case n < 42:
		return d.one(brokenOnes)
	case n < 48:
		return d.one(otherTexts)
	}
	if deep <= 0 {
		return "x"
	}
	s := d.text(deep - 1)
	return d.one([]string{"f(" + s + ")", "(" + s + ")", "[" + s + "]", "{" + s + "}", "F( " + s + " )", "[" + s})
}

// text: some pieces; often one alone.
func (d dice) text(deep int) string {
	s := ""
	for range []int{0, 1, 1, 1, 1, 2, 3}[d.Intn(7)] {
		s += d.one([]string{"", "", " ", "/**/", " /**/ "}) + d.piece(deep)
	}
	return s + d.one([]string{"", "", " "})
}

// value: a raw one; now and then one that may not be.
func (d dice) value(deep int) api.Value {
	kinds := []int{api.TIdent, api.TFunc, api.TNumber, api.TDim, api.TSpace, api.TComma, api.TOpenParen, api.TOpenSquare, api.TOpenCurly, api.TFunc, api.TIdent, 1 + d.Intn(24)}
	t := api.Token{Kind: kinds[d.Intn(len(kinds))]}
	if d.Intn(40) == 0 {
		t.Kind = d.Intn(30) - 3
	}
	t.Num = []api.Rat{{}, frac(0, 1), frac(1, 1), frac(-1, 1), frac(1, 3), frac(0, 2), frac(2, 4), frac(-1, -1), frac(1, 0)}[d.Intn(9)]
	t.Text = d.cased(d.one([]string{"", "px", "em", "var", "var", "var", "calc", "--a", "--a", "--", "a", "auto", "red", "inherit", "\xff", "min"}))
	v := api.Value{Tok: t}
	if opens := strings.Contains("[({F", signsOf([]api.Token{{Kind: t.Kind}})); deep > 0 && (opens || d.Intn(60) == 0) {
		v.Kids = d.values(deep - 1)
	}
	return v
}

func (d dice) values(deep int) (l []api.Value) {
	for range []int{0, 1, 1, 1, 2, 3, 4}[d.Intn(7)] {
		l = append(l, d.value(deep))
	}
	return l
}

// hold: the program tells of l what the second reading tells; what that is.
func hold(t *testing.T, name string, l []api.Value) (api.Val, api.Errno) {
	t.Helper()
	want, why := plainParse(name, l)
	if why == api.OK {
		told(t, name, l, want)
	} else {
		refused(t, name, l, why)
	}
	return want, why
}

var namesAsked = append(named(), "--inherit", "--", "Width", "")

// P14.3, P14.4: of many texts, for every name.
func TestStrewnTexts(t *testing.T) {
	d := roll(14)
	counts := map[string]map[[2]int]int{}
	for _, name := range namesAsked {
		counts[name] = map[[2]int]int{}
	}
	for range 8000 {
		l := values(d.text(3))
		for _, name := range namesAsked {
			v, why := hold(t, name, l)
			counts[name][[2]int{v.Kind, int(why)}]++
		}
	}
	for _, p := range facts() {
		c := counts[p.Name]
		enough := c[[2]int{0, 3}] > 400 && c[[2]int{api.VWide, 0}] > 50 && c[[2]int{api.VVars, 0}] > 250
		enough = enough && (c[[2]int{api.VExpr, 0}] > 120) == (p.Kind != api.PWord) && (c[[2]int{api.VWord, 0}] > 20) == (len(p.Words) > 0)
		if !enough {
			t.Error(p.Name, c)
		}
	}
	if c := counts["--a"]; c[[2]int{api.VVars, 0}] < 400 || c[[2]int{api.VWide, 0}] < 50 || c[[2]int{0, 3}] < 400 {
		t.Error(c)
	}
}

// P14.2 to P14.4: of many raw values.
func TestStrewnValues(t *testing.T) {
	d := roll(41)
	counts := map[[2]int]int{}
	uses := map[bool]int{}
	for range 60000 {
		l := d.values(4)
		name := namesAsked[d.Intn(len(namesAsked))]
		v, why := hold(t, name, l)
		counts[[2]int{v.Kind, int(why)}]++
		// Flat goes through what stands under any token.
		use := strings.Contains(signsOf(rule.Flat(l)), "V")
		if uses[use]++; Vars(l) != use {
			t.Errorf("%s: %v", spellOf(l), Vars(l))
		}
	}
	for _, what := range [][2]int{{0, int(api.ErrArg)}, {0, int(api.ErrName)}, {0, int(api.ErrSyntax)}, {api.VExpr, 0}, {api.VWord, 0}, {api.VWide, 0}, {api.VVars, 0}} {
		if counts[what] < 60 {
			t.Error(what, counts)
		}
	}
	if uses[true] < 5000 || uses[false] < 5000 {
		t.Error(uses)
	}
}

// recased: l with the case of some letters changed, outside of strings and custom names.
func (d dice) recased(l []api.Value) []api.Value {
	var out []api.Value
	for _, v := range l {
		keep := v.Tok.Kind == api.TString || v.Tok.Kind == api.TUrl || v.Tok.Kind == api.TIdent && strings.HasPrefix(v.Tok.Text, "--")
		if !keep {
			v.Tok.Text = strings.Map(func(c rune) rune {
				switch {
				case d.Intn(2) == 0 && c >= 'a' && c <= 'z':
					return c - 'a' + 'A'
				case d.Intn(2) == 0 && c >= 'A' && c <= 'Z':
					return c - 'A' + 'a'
				}
				return c
			}, v.Tok.Text)
		}
		v.Kids = d.recased(v.Kids)
		out = append(out, v)
	}
	return out
}

// P14.5: Parse does not hang on case. (Tokens that are told stay as they are written, so those are held against each other by letters.)
func TestCaseDoesNotTell(t *testing.T) {
	d := roll(145)
	changed := map[int]int{}
	for range 8000 {
		l := values(d.text(3))
		m := d.recased(l)
		for _, name := range namesAsked {
			a, why := Parse(name, l)
			b, whyToo := Parse(name, m)
			if !reflect.DeepEqual(l, m) {
				changed[a.Kind]++
			}
			for i := range min(len(a.Tokens), len(b.Tokens)) {
				a.Tokens[i].Text, b.Tokens[i].Text = strings.ToLower(a.Tokens[i].Text), strings.ToLower(b.Tokens[i].Text)
			}
			if why != whyToo || !reflect.DeepEqual(a, b) {
				t.Errorf("%s: %s %d, of %s %s %d", spellOf(l), valOf(a), why, spellOf(m), valOf(b), whyToo)
			}
		}
	}
	for _, kind := range []int{0, api.VExpr, api.VWord, api.VWide, api.VVars} {
		if changed[kind] < 200 {
			t.Error(changed)
		}
	}
}

// P14.6: what is told of VExpr is of the property's kind, and a number alone is not below 0 where the table says no. Tokens that are told tell themselves.
func TestWhatFollows(t *testing.T) {
	d := roll(146)
	low, high, again := 0, 0, 0
	for range 15000 {
		l := values(d.text(2))
		for _, p := range facts() {
			v, why := Parse(p.Name, l)
			switch v.Kind {
			case api.VExpr:
				want := map[int]int{api.PLength: api.KLength, api.PNumber: api.KNumber}[p.Kind]
				if kind, e := calc.Kind(v.Expr); kind != want || e != api.OK {
					t.Errorf("%s: %s: %d %d", p.Name, spellOf(l), kind, e)
				}
				if v.Expr.Kind == api.ENum && v.Expr.Num.Num < 0 {
					low++
					if !p.Low {
						t.Errorf("%s: %s", p.Name, spellOf(l))
					}
				} else {
					high++
				}
			case api.VVars:
				again++
				told(t, p.Name, rule.Values(v.Tokens), v)
			case 0:
				if why == api.OK {
					t.Errorf("%s: %s", p.Name, spellOf(l))
				}
			}
		}
	}
	if low < 400 || high < 4000 || again < 4000 {
		t.Error(low, high, again)
	}
}

// White space around tells nothing.
func TestSpaceAround(t *testing.T) {
	d := roll(147)
	for range 5000 {
		l := values(d.text(2))
		space := tok.Bytes([]byte(" /**/ "))
		m := append(append(rule.Values(space), l...), rule.Values(space)...)
		for _, name := range namesAsked {
			a, why := Parse(name, l)
			b, whyToo := Parse(name, m)
			if why != whyToo || !reflect.DeepEqual(a, b) {
				t.Errorf("%s: %s: %s %d, %s %d", name, spellOf(l), valOf(a), why, valOf(b), whyToo)
			}
		}
	}
}
