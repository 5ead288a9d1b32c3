package print

import (
	"math"
	"strings"
	"testing"

	"jalousie/api"
	"jalousie/rule"
	"jalousie/spell"
	"jalousie/tok"
)

func one(kind int) api.Token      { return api.Token{Kind: kind} }
func ident(s string) api.Token    { return api.Token{Kind: api.TIdent, Text: s} }
func delim(s string) api.Token    { return api.Token{Kind: api.TDelim, Text: s} }
func values(s string) []api.Value { return rule.Values(tok.Bytes([]byte(s))) }

// lone: a list of one value, without Kids.
func lone(t api.Token) []api.Value { return []api.Value{{Tok: t}} }

// under: a list of one value, with these Kids.
func under(t api.Token, kids ...api.Value) []api.Value { return []api.Value{{Tok: t, Kids: kids}} }

// chain: n openers in one another, around these values.
func chain(opener api.Token, n int, l []api.Value) []api.Value {
	for range n {
		l = under(opener, l...)
	}
	return l
}

// groups: n groups in one another, around these rules.
func groups(n int, l []api.Rule) []api.Rule {
	for range n {
		l = []api.Rule{{Kind: api.RGroup, Name: "media", Rules: l}}
	}
	return l
}

// sheet: the rules of a text that is not too long.
func sheet(t *testing.T, s string) []api.Rule {
	t.Helper()
	l, e := rule.Sheet([]byte(s))
	if e != api.OK {
		t.Fatalf("%q: %d", s, e)
	}
	return l
}

// told: one answer against another. Beside an error nothing is told.
func told(t *testing.T, what any, got string, e api.Errno, want string, wantErr api.Errno) {
	t.Helper()
	if got != want || e != wantErr {
		t.Errorf("%v: %q %d, not %q %d", what, got, e, want, wantErr)
	}
}

var openers = []struct {
	tok         api.Token
	open, close string
}{{api.Token{Kind: api.TFunc, Text: "f"}, "f(", ")"}, {one(api.TOpenParen), "(", ")"}, {one(api.TOpenSquare), "[", "]"}, {one(api.TOpenCurly), "{", "}"}}

// wrong: tokens that may not be, each for a reason of its own.
var wrong = []api.Token{
	{}, one(-1), one(25), one(math.MaxInt), one(math.MinInt), one(1<<32 + api.TSpace),
	ident(""), ident("\x00"), ident("a\x00b"), ident("\xff"), ident("a\xc3"), {Kind: api.TIdent, Text: "a", Int: true}, {Kind: api.TIdent, Text: "a", Id: true}, {Kind: api.TIdent, Text: "a", Num: api.Rat{Num: 1, Den: 1}},
	one(api.TFunc), one(api.TAt), one(api.THash), {Kind: api.THash, Text: "x"}, {Kind: api.TString, Text: "\x00"}, {Kind: api.TUrl, Text: "\xed\xa0\x80"},
	delim(""), delim("a"), delim("\n"), delim("!!"), delim("("), delim("é"),
	{Kind: api.TNumber, Num: api.Rat{Num: 1, Den: 3}}, {Kind: api.TNumber, Num: api.Rat{Num: 2, Den: 4}}, {Kind: api.TPercent, Num: api.Rat{Num: 1, Den: 2}, Int: true}, {Kind: api.TDim, Num: api.Rat{Num: 1, Den: 1}}, {Kind: api.TNumber, Num: api.Rat{Num: 1, Den: 1}, Text: "x"},
	{Kind: api.TSpace, Text: " "}, {Kind: api.TColon, Text: ":"}, {Kind: api.TOpenParen, Text: "("}, {Kind: api.TCloseParen, Id: true}, {Kind: api.TBadString, Text: "x"},
}

// The chapter's table.
func TestExamples(t *testing.T) {
	for _, c := range [][2]string{
		{"a { b : c ! important }", "a{b:c !important;}"}, {"@Media  x and (a) { b{} }", "@media x and (a){b{}}"}, {"a/**/b c{}", "a/**/b c{}"},
	} {
		got, e := Rules(sheet(t, c[0]))
		told(t, c[0], got, e, c[1], api.OK)
	}
	got, e := Decls([]api.Decl{{Name: "--X", Value: []api.Value{{Tok: ident("a")}, {Tok: one(api.TSpace)}}}})
	told(t, "a TSpace at the end", got, e, "--X:a ;", api.OK)
	got, e = Values(under(one(api.TOpenParen), api.Value{Tok: api.Token{Kind: api.TNumber, Num: api.Rat{Num: 1, Den: 1}, Int: true}}))
	told(t, "a parenthesis", got, e, "(1)", api.OK)
	got, e = Rules([]api.Rule{{Kind: 3}})
	told(t, "Kind 3", got, e, "", api.ErrArg)
	got, e = Rules([]api.Rule{{Kind: api.RGroup, Name: "page"}})
	told(t, "page", got, e, "", api.ErrArg)
}

// R2: nil and empty lists are one; of nothing nothing is written.
func TestNothing(t *testing.T) {
	for _, l := range [][]api.Value{nil, {}} {
		got, e := Values(l)
		told(t, l, got, e, "", api.OK)
		for _, o := range openers {
			got, e = Values(under(o.tok, l...))
			told(t, o, got, e, o.open+o.close, api.OK)
		}
	}
	for _, l := range [][]api.Decl{nil, {}} {
		got, e := Decls(l)
		told(t, l, got, e, "", api.OK)
	}
	for _, l := range [][]api.Rule{nil, {}} {
		got, e := Rules(l)
		told(t, l, got, e, "", api.OK)
	}
	got, e := Rules([]api.Rule{{Kind: api.RStyle, Prelude: []api.Value{}, Decls: []api.Decl{}, Rules: []api.Rule{}}, {Kind: api.RGroup, Name: "media", Prelude: []api.Value{}, Decls: []api.Decl{}, Rules: []api.Rule{}}})
	told(t, "empty lists", got, e, "{}@media {}", api.OK)
	got, e = Rules([]api.Rule{{Kind: api.RStyle}, {Kind: api.RGroup, Name: "media"}})
	told(t, "nil lists", got, e, "{}@media {}", api.OK)
}

// P6.1
func TestValues(t *testing.T) {
	for _, c := range [][2]string{
		{"a", "a"}, {" a ", " a "}, {"a b", "a b"}, {"a/**/b", "a/**/b"}, {"a/**/(b)", "a/**/(b)"}, {"a /**/ b", "a /**/ b"}, {"f(x,y)z", "f(x,y)z"}, {"([{f(a", "([{f(a)}])"}, {"f( [ ] )", "f( [ ] )"}, {"())", "())"}, {"(])", "(])"}, {") ] }", ") ] }"},
		{"a{b:c;d}", "a{b:c;d}"}, {"a>b", "a/**/>/**/b"}, {"1.50em", "1.5em"}, {"+1e3", "1000.0"}, {"1e400", "1e99"}, {"#a#1", "#a#1"}, {"url( x )", "url(x)"}, {"url( 'x' )", "url( \"x\" )"}, {"url(a b)", "url(()"}, {"'x\n", "\"\n "}, {"\\\n", "\\\n "}, {"'a\"b'", "\"a\\\"b\""}, {`\31 a`, `\31 a`}, {"@a<!---->", "@a<!---->"}, {"!important", "!/**/important"},
	} {
		l := values(c[0])
		got, e := Values(l)
		told(t, c[0], got, e, c[1], api.OK)
		want, wantErr := spell.Tokens(rule.Flat(l))
		told(t, c[0], got, e, want, wantErr)
	}
}

// P6.1: a token that may not be, wherever it stands.
func TestValuesWrong(t *testing.T) {
	fine := api.Value{Tok: ident("x")}
	for _, w := range wrong {
		bad := api.Value{Tok: w}
		for _, l := range [][]api.Value{{bad}, {fine, bad}, {bad, fine}, under(one(api.TOpenParen), bad), under(one(api.TOpenSquare), fine, bad), {fine, {Tok: one(api.TOpenCurly), Kids: chain(one(api.TOpenParen), 63, []api.Value{bad})}}} {
			got, e := Values(l)
			told(t, l, got, e, "", api.ErrArg)
		}
	}
	// Kids under what is no opener
	for _, v := range values("a @a #a 'a' '\n url(a) url(() ! 1 1% 1px <!-- --> : ; , ) ] }") {
		got, e := Values([]api.Value{v})
		if e != api.OK {
			t.Errorf("%v: %q %d", v, got, e)
		}
		v.Kids = []api.Value{fine}
		for _, l := range [][]api.Value{{v}, {fine, v}, under(one(api.TOpenParen), v)} {
			got, e = Values(l)
			told(t, l, got, e, "", api.ErrArg)
		}
	}
}

// P6.1: nested just MaxNest deep, and one deeper.
func TestValuesDeep(t *testing.T) {
	x := lone(ident("x"))
	for _, o := range openers {
		for _, inner := range [][]api.Value{nil, x} {
			text := ""
			if inner != nil {
				text = "x"
			}
			most := chain(o.tok, api.MaxNest, inner)
			want := strings.Repeat(o.open, api.MaxNest) + text + strings.Repeat(o.close, api.MaxNest)
			got, e := Values(most)
			told(t, o, got, e, want, api.OK)
			got, e = Values([]api.Value{x[0], most[0], most[0]})
			told(t, o, got, e, joined(o.tok, want), api.OK)
			for _, l := range [][]api.Value{chain(o.tok, 1, most), {x[0], under(one(api.TOpenSquare), most...)[0]}, chain(o.tok, 200, inner)} {
				got, e = Values(l)
				told(t, o, got, e, "", api.ErrArg)
			}
		}
	}
}

// joined: x, and the same text behind it twice.
func joined(opener api.Token, text string) string {
	if spell.Apart(ident("x"), opener) {
		return "x/**/" + text + text
	}
	return "x" + text + text
}

// names: a declaration's names that may be, and their texts.
var names = [][2]string{{"a", "a"}, {"--X", "--X"}, {"--", "--"}, {"-", `\-`}, {"1a", `\31 a`}, {"-1", `-\31 `}, {"a b", `a\ b`}, {"A", "A"}, {"é", "é"}, {"\ufeff", `\feff `}, {"a:b;c", `a\:b\;c`}, {"}", `\}`}, {"\n", `\a `}, {"\x7f\x01", `\7f \1 `}, {"url", "url"}, {"!important", `\!important`}, {"\U0010ffff", "\U0010ffff"}}

// wrongNames: empty, with a 0, no whole bytes of characters.
var wrongNames = []string{"", "\x00", "a\x00", "\x00a", "a\x00b", "\xff", "a\xc3", "\xc3a", "\xc0\x80", "\xed\xa0\x80", "\xf4\x90\x80\x80", "--\x80"}

// P6.2
func TestDecls(t *testing.T) {
	value := values("1px solid")
	for _, n := range names {
		got, e := Decls([]api.Decl{{Name: n[0], Value: value}})
		told(t, n[0], got, e, n[1]+":1px solid;", api.OK)
	}
	for _, c := range []struct {
		l    []api.Decl
		want string
	}{
		{[]api.Decl{{Name: "a"}}, "a:;"},
		{[]api.Decl{{Name: "a", Important: true}}, "a: !important;"},
		{[]api.Decl{{Name: "a", Value: values("b"), Important: true}}, "a:b !important;"},
		{[]api.Decl{{Name: "a", Value: values("b")}, {Name: "c", Value: values("d"), Important: true}, {Name: "a"}}, "a:b;c:d !important;a:;"},
		{[]api.Decl{{Name: "a", Value: values(" b "), Important: true}}, "a: b  !important;"},
		{[]api.Decl{{Name: "a", Value: values("!important")}}, "a:!/**/important;"},
		{[]api.Decl{{Name: "a", Value: values("b!important"), Important: true}}, "a:b/**/!/**/important !important;"},
		{[]api.Decl{{Name: "a", Value: values("\\\n")}, {Name: "b", Value: rule.Trim(values("\\\n")), Important: true}}, "a:\\\n ;b:\\\n !important;"},
		{[]api.Decl{{Name: "a", Value: rule.Trim(values("'\n"))}}, "a:\"\n;"},
		{[]api.Decl{{Name: "a", Value: values("b;c:d}")}}, "a:b;c:d};"},
		{[]api.Decl{{Name: "a", Value: values("{b:c;d(")}}, "a:{b:c;d()};"},
	} {
		got, e := Decls(c.l)
		told(t, c.l, got, e, c.want, api.OK)
	}
}

// P6.2: one declaration that may not be, at each place.
func TestDeclsWrong(t *testing.T) {
	fine := api.Decl{Name: "a", Value: values("b")}
	var bad []api.Decl
	for _, n := range wrongNames {
		bad = append(bad, api.Decl{Name: n}, api.Decl{Name: n, Value: values("b"), Important: true})
	}
	for _, w := range wrong {
		bad = append(bad, api.Decl{Name: "a", Value: lone(w)}, api.Decl{Name: "--b", Value: under(one(api.TOpenCurly), lone(w)...), Important: true})
	}
	for _, o := range openers {
		bad = append(bad, api.Decl{Name: "a", Value: chain(o.tok, api.MaxNest+1, nil)})
	}
	bad = append(bad, api.Decl{Name: "a", Value: under(ident("b"), lone(ident("c"))...)})
	for _, d := range bad {
		for _, l := range [][]api.Decl{{d}, {fine, d}, {d, fine}, {fine, d, fine}} {
			got, e := Decls(l)
			told(t, l, got, e, "", api.ErrArg)
		}
		got, e := Rules([]api.Rule{{Kind: api.RStyle}, {Kind: api.RStyle, Decls: []api.Decl{fine, d}}})
		told(t, d, got, e, "", api.ErrArg)
		got, e = Rules(groups(2, []api.Rule{{Kind: api.RStyle, Decls: []api.Decl{d, fine}}}))
		told(t, d, got, e, "", api.ErrArg)
	}
	for _, o := range openers {
		got, e := Decls([]api.Decl{{Name: "a", Value: chain(o.tok, api.MaxNest, nil)}})
		told(t, o, got, e, "a:"+strings.Repeat(o.open, api.MaxNest)+strings.Repeat(o.close, api.MaxNest)+";", api.OK)
	}
}

// P6.3
func TestRules(t *testing.T) {
	a, b := values("a"), values("b , c")
	decls := []api.Decl{{Name: "d", Value: values("e")}, {Name: "f", Important: true}}
	for _, c := range []struct {
		l    []api.Rule
		want string
	}{
		{[]api.Rule{{Kind: api.RStyle}}, "{}"},
		{[]api.Rule{{Kind: api.RStyle, Prelude: b}}, "b , c{}"},
		{[]api.Rule{{Kind: api.RStyle, Prelude: a, Decls: decls}, {Kind: api.RStyle, Decls: decls[:1]}}, "a{d:e;f: !important;}{d:e;}"},
		{[]api.Rule{{Kind: api.RGroup, Name: "media"}}, "@media {}"},
		{[]api.Rule{{Kind: api.RGroup, Name: "supports", Prelude: a}, {Kind: api.RGroup, Name: "container", Prelude: b}}, "@supports a{}@container b , c{}"},
		{[]api.Rule{{Kind: api.RGroup, Name: "media", Prelude: a, Rules: []api.Rule{{Kind: api.RStyle, Prelude: a, Decls: decls}, {Kind: api.RGroup, Name: "container", Prelude: b, Rules: []api.Rule{{Kind: api.RStyle}}}, {Kind: api.RStyle}}}, {Kind: api.RStyle, Prelude: a}}, "@media a{a{d:e;f: !important;}@container b , c{{}}{}}a{}"},
		// raw: preludes that nobody reads so
		{[]api.Rule{{Kind: api.RStyle, Prelude: values(" a ")}, {Kind: api.RStyle, Prelude: values("{x}")}, {Kind: api.RStyle, Prelude: values("@media")}, {Kind: api.RGroup, Name: "media", Prelude: values(" ;")}}, " a {}{x}{}@media{}@media  ;{}"},
		{[]api.Rule{{Kind: api.RStyle, Prelude: rule.Trim(values("\\\n"))}, {Kind: api.RGroup, Name: "media", Prelude: rule.Trim(values("'\n"))}}, "\\\n{}@media \"\n{}"},
	} {
		got, e := Rules(c.l)
		told(t, c.l, got, e, c.want, api.OK)
	}
}

// P6.3: one rule that may not be, at each place.
func TestRulesWrong(t *testing.T) {
	style := api.Rule{Kind: api.RStyle, Prelude: values("a")}
	decls := []api.Decl{{Name: "a"}}
	var bad []api.Rule
	for _, kind := range []int{0, 3, -1, math.MaxInt, math.MinInt, 1<<32 + 1} {
		bad = append(bad, api.Rule{Kind: kind}, api.Rule{Kind: kind, Name: "media"})
	}
	for _, name := range []string{"x", " ", "media", "\x00", "\xff"} {
		bad = append(bad, api.Rule{Kind: api.RStyle, Name: name})
	}
	for _, name := range []string{"", "page", "Media", "MEDIA", "medi", "media ", " media", "medias", "@media", "media\x00", "mediasupports", "Supports", "containers", "font-face"} {
		bad = append(bad, api.Rule{Kind: api.RGroup, Name: name})
	}
	for _, name := range []string{"media", "supports", "container"} {
		bad = append(bad, api.Rule{Kind: api.RGroup, Name: name, Decls: decls}, api.Rule{Kind: api.RGroup, Name: name, Decls: decls, Rules: []api.Rule{style}})
	}
	bad = append(bad, api.Rule{Kind: api.RStyle, Rules: []api.Rule{style}}, api.Rule{Kind: api.RStyle, Decls: decls, Rules: []api.Rule{style}}, api.Rule{Kind: api.RStyle, Rules: []api.Rule{{}}})
	for _, w := range wrong {
		l := lone(w)
		bad = append(bad, api.Rule{Kind: api.RStyle, Prelude: l}, api.Rule{Kind: api.RGroup, Name: "media", Prelude: l}, api.Rule{Kind: api.RStyle, Prelude: under(one(api.TOpenParen), l...)}, api.Rule{Kind: api.RGroup, Name: "supports", Prelude: append(values("x ("), l...), Rules: []api.Rule{style}})
	}
	for _, o := range openers {
		deep := chain(o.tok, api.MaxNest+1, nil)
		bad = append(bad, api.Rule{Kind: api.RStyle, Prelude: deep}, api.Rule{Kind: api.RGroup, Name: "container", Prelude: deep})
	}
	bad = append(bad, api.Rule{Kind: api.RStyle, Prelude: under(ident("a"), lone(ident("b"))...)})
	for _, r := range bad {
		for _, l := range [][]api.Rule{{r}, {style, r}, {r, style}, groups(1, []api.Rule{r}), groups(5, []api.Rule{style, r, style}), append(groups(1, []api.Rule{style}), r)} {
			got, e := Rules(l)
			told(t, l, got, e, "", api.ErrArg)
		}
	}
}

// P6.3: rules nested just MaxNest deep, and one deeper.
func TestRulesDeep(t *testing.T) {
	style := []api.Rule{{Kind: api.RStyle}}
	text := func(n int, inner string) string {
		return strings.Repeat("@media {", n) + inner + strings.Repeat("}", n)
	}
	most := groups(63, style)
	for _, c := range []struct {
		l    []api.Rule
		want string
	}{
		{most, text(63, "{}")}, {groups(64, nil), text(64, "")}, {groups(64, []api.Rule{}), text(64, "")},
		// the depth is that of each rule, not of how many came ahead of it
		{append(append(most[:1:1], most...), groups(64, nil)...), text(63, "{}") + text(63, "{}") + text(64, "")},
		{groups(61, append(groups(2, style), append(groups(3, nil), style...)...)), text(61, text(2, "{}")+text(3, "")+"{}")},
	} {
		got, e := Rules(c.l)
		told(t, c.want, got, e, c.want, api.OK)
	}
	for _, l := range [][]api.Rule{groups(64, style), groups(65, nil), groups(65, style), groups(200, nil), append(style[:1:1], groups(64, style)...), append(groups(65, nil), style...), groups(60, append(groups(3, style), groups(4, style)...))} {
		got, e := Rules(l)
		told(t, "one deeper", got, e, "", api.ErrArg)
	}
	// values nest by themselves, however deep the rule stands
	deep := chain(one(api.TOpenParen), api.MaxNest, nil)
	inner, parens := []api.Rule{{Kind: api.RStyle, Prelude: deep, Decls: []api.Decl{{Name: "a", Value: deep}}}}, strings.Repeat("(", 64)+strings.Repeat(")", 64)
	got, e := Rules(groups(63, inner))
	told(t, "deep values in deep rules", got, e, text(63, parens+"{a:"+parens+";}"), api.OK)
}

// R3: what holds itself is too deep, and comes to an end.
func TestHoldsItself(t *testing.T) {
	l := []api.Rule{{Kind: api.RGroup, Name: "media"}, {Kind: api.RGroup, Name: "media"}}
	l[0].Rules, l[1].Rules = l, l
	got, e := Rules(l)
	told(t, "rules", got, e, "", api.ErrArg)
	v := []api.Value{{Tok: one(api.TOpenParen)}, {Tok: one(api.TOpenParen)}}
	v[0].Kids, v[1].Kids = v, v
	got, e = Values(v)
	told(t, "values", got, e, "", api.ErrArg)
	got, e = Decls([]api.Decl{{Name: "a", Value: v}})
	told(t, "declarations", got, e, "", api.ErrArg)
}
