package sel

import (
	"math"
	"reflect"
	"strings"
	"testing"

	"jalousie/api"
	"jalousie/rule"
	"jalousie/tok"
)

func values(s string) []api.Value { return rule.Values(tok.Bytes([]byte(s))) }

func tag(s string) api.Simple     { return api.Simple{Kind: api.STag, Name: s} }
func class(s string) api.Simple   { return api.Simple{Kind: api.SClass, Name: s} }
func id(s string) api.Simple      { return api.Simple{Kind: api.SId, Name: s} }
func word(kind int) api.Simple    { return api.Simple{Kind: kind} }
func nth(a, b int) api.Simple     { return api.Simple{Kind: api.SNth, A: a, B: b} }
func nthLast(a, b int) api.Simple { return api.Simple{Kind: api.SLastOf, A: a, B: b} }

func attr(name string, op int, value string, fold bool) api.Simple {
	return api.Simple{Kind: api.SAttr, Name: name, Op: op, Value: value, Fold: fold}
}

// of: a pseudo-class of this kind with these selectors.
func of(kind int, l ...api.Complex) api.Simple { return api.Simple{Kind: kind, List: l} }

// with: a compound behind this combinator.
func with(comb int, l ...api.Simple) api.Compound { return api.Compound{Comb: comb, Simples: l} }

// row: a complex selector.
func row(l ...api.Compound) api.Complex { return api.Complex{Parts: l} }

// side: a complex selector of one compound.
func side(l ...api.Simple) api.Complex { return row(with(api.CNone, l...)) }

// lone: a list of one selector of one compound.
func lone(l ...api.Simple) []api.Complex { return []api.Complex{side(l...)} }

// nest: n lists in one another, the innermost with this.
func nest(n int, kind int, s api.Simple) []api.Complex {
	l := lone(s)
	for range n - 1 {
		l = lone(of(kind, l...))
	}
	return l
}

// told: Parse of l tells this list, it may be, and is read again of its text.
func told(t *testing.T, what any, l []api.Value, want ...api.Complex) {
	t.Helper()
	got, e := Parse(l)
	if e != api.OK || !reflect.DeepEqual(got, want) {
		t.Errorf("%v: %+v %d, not %+v", what, got, e, want)
		return
	}
	again(t, what, got)
}

// again: P9.6, of one list.
func again(t *testing.T, what any, l []api.Complex) {
	t.Helper()
	text, e := Text(l)
	if !May(l) || e != api.OK {
		t.Errorf("%v: %v, its text %q %d", what, May(l), text, e)
		return
	}
	if back, e := Parse(values(text)); e != api.OK || !reflect.DeepEqual(back, l) {
		t.Errorf("%v: %q is read as %+v %d, not %+v", what, text, back, e, l)
	}
}

// refused: Parse of l tells this error, and nothing beside it.
func refused(t *testing.T, what any, l []api.Value, want api.Errno) {
	t.Helper()
	if got, e := Parse(l); e != want || got != nil {
		t.Errorf("%v: %+v %d, not %d", what, got, e, want)
	}
}

func noList(t *testing.T, texts ...string) {
	t.Helper()
	for _, s := range texts {
		refused(t, s, values(s), api.ErrSyntax)
	}
}

func weighs(t *testing.T, what any, c api.Complex, want api.Weight) {
	t.Helper()
	if w, e := Weigh(c); e != api.OK || w != want {
		t.Errorf("%v: %v %d, not %v", what, w, e, want)
	}
}

// The chapter's table.
func TestExamples(t *testing.T) {
	for _, c := range []struct {
		text   string
		want   []api.Complex
		weight api.Weight
	}{
		{`a.b#c[d="e" i]:root`, lone(tag("a"), class("b"), id("c"), attr("d", api.OpIs, "e", true), word(api.SRoot)), api.Weight{1, 3, 1}},
		{"* > a  b+c ~ d", []api.Complex{row(with(api.CNone, word(api.SAny)), with(api.CChild, tag("a")), with(api.CDown, tag("b")), with(api.CNext, tag("c")), with(api.CLater, tag("d")))}, api.Weight{0, 0, 4}},
		{":not(a, .b c):where(#x)", lone(of(api.SNot, side(tag("a")), row(with(api.CNone, class("b")), with(api.CDown, tag("c")))), of(api.SWhere, side(id("x")))), api.Weight{0, 1, 1}},
		{":nth-child(2n+1), :nth-child(-n-3), :nth-child(odd), :nth-child(n + 4)", []api.Complex{side(nth(2, 1)), side(nth(-1, -3)), side(nth(2, 1)), side(nth(1, 4))}, api.Weight{0, 1, 0}},
		{`[a=b] [a~=b] [ a |= "b" ]`, []api.Complex{row(with(api.CNone, attr("a", api.OpIs, "b", false)), with(api.CDown, attr("a", api.OpWord, "b", false)), with(api.CDown, attr("a", api.OpDash, "b", false)))}, api.Weight{0, 3, 0}},
	} {
		told(t, c.text, values(c.text), c.want...)
		weighs(t, c.text, c.want[0], c.weight)
	}
	noList(t, "a,, b", "> a", "a >", ".a b::c", "#1", "a:hover", "()", "")
}

// P9.1: a list is the pieces between commas of its top level, trimmed.
func TestLists(t *testing.T) {
	a, b := side(tag("a")), side(tag("b"))
	for _, s := range []string{"a,b", "a, b", " a , b ", "\na/**/ /**/ , /**/ b\t", "/**/a/**/,/**/b/**/"} {
		told(t, s, values(s), a, b)
	}
	told(t, "a", values(" a "), a)
	told(t, "many", values("a"+strings.Repeat(", b", 5000)), append([]api.Complex{a}, repeat(b, 5000)...)...)
	told(t, "inner commas", values(":is(a, b), b"), side(of(api.SIs, a, b)), b)
	noList(t, "", " ", ",", " , ", "a,", ",a", "a,,b", "a, ,b", "a,b,", "a;b", "a,b;", "a,)", "a{}", "a(b)", "a,/**/")
	refused(t, "nil", nil, api.ErrSyntax)
	refused(t, "empty", []api.Value{}, api.ErrSyntax)
}

func repeat(c api.Complex, n int) (l []api.Complex) {
	for range n {
		l = append(l, side(c.Parts[0].Simples...))
	}
	return l
}

// P9.1: combinators, with TSpace ahead and behind or none; TSpace alone.
func TestCombinators(t *testing.T) {
	for s, comb := range map[string]int{" ": api.CDown, ">": api.CChild, "+": api.CNext, "~": api.CLater} {
		want := row(with(api.CNone, tag("a")), with(comb, tag("b")))
		if comb == api.CDown {
			for _, s := range []string{" ", "  ", "\n\t", " /**/ ", "/**/ ", " /**/"} {
				told(t, s, values("a"+s+"b"), want)
			}
			continue
		}
		for _, ahead := range []string{"", " ", "/**/", " /**/ "} {
			for _, behind := range []string{"", " ", "/**/", " /**/\n"} {
				text := "a" + ahead + s + behind + "b"
				told(t, text, values(text), want)
			}
		}
		noList(t, s, s+"a", s+" a", " "+s+" a", "a"+s, "a "+s+" ", "a"+s+s+"b", "a "+s+" "+s+" b", "a"+s+",b", "a,"+s+"b", ":not("+s+"a)", ":is(a"+s+")")
		for _, other := range []string{">", "+", "~"} {
			noList(t, "a"+s+other+"b", "a "+s+" "+other+" b")
		}
	}
	noList(t, "a|b", "a||b", "a | b", "a >> b", "a & b", "a - b", "a = b", "a / b", "a/**/b", "a!b", "a $ b", "a<b", "a -->b")
	told(t, "long", values("a"+strings.Repeat(">.b", 3000)), row(append([]api.Compound{with(api.CNone, tag("a"))}, parts(3000)...)...))
}

func parts(n int) (l []api.Compound) {
	for range n {
		l = append(l, with(api.CChild, class("b")))
	}
	return l
}

// P9.1: compounds: a tag or * first alone, then others, in any order, as often as they like, side by side.
func TestCompounds(t *testing.T) {
	a, b, c, d := class("a"), id("b"), attr("c", api.OpHas, "", false), word(api.SRoot)
	for s, want := range map[string][]api.Simple{
		"x": {tag("x")}, "*": {word(api.SAny)}, ".a": {a}, "#b": {b}, "[c]": {c}, ":root": {d},
		"x.a": {tag("x"), a}, "*.a": {word(api.SAny), a}, "x#b": {tag("x"), b}, "*[c]": {word(api.SAny), c}, "*:root": {word(api.SAny), d},
		".a.a": {a, a}, "#b#b": {b, b}, "[c][c]": {c, c}, ":root:root": {d, d}, ":root[c]#b.a": {d, c, b, a}, ".a/**/#b/**/[c]": {a, b, c}, "x/**/.a": {tag("x"), a}, "./**/a": {a}, ":/**/root": {d},
		".a:not(x)": {a, of(api.SNot, side(tag("x")))},
	} {
		told(t, s, values(s), side(want...))
	}
	noList(t, "**", "x*", "*x", ".a*", "#b*", "[c]*", ":root*", "[c]x", "[c]/**/x", ".a/**/x", "#b/**/x", ":not(a)x", ":root/**/x", "*/**/*", "x/**/x",
		".", ". a", "..a", ".a.", "*.", ".*", ".1", ".#b", ".[c]", ".:root", ".a(b)", "#", "# a", "#1", "#-", "#-1", "#a #1", "##a", ":", "::", "::root", ": root", ":root:", "a::before", ":.a", ":#b", ":[c]", ":*",
		"(a)", "{a}", "a (b)", "1", "1a", "1%", `"a"`, "a \"b\"", "@a", "url(a)", "url(a b)", "<!--", "-->", "!", "a!", "\"\n", "a)", ")", "]", "}", "[c]]", "&", "\\\n")
	// What is open at the end is closed there (chapter 5): so one of these is a list.
	told(t, "[c", values("[c"), side(c))
}

// P9.1: names are identifiers, whatever they hold; the grammar's words stay names where a name stands.
func TestNames(t *testing.T) {
	for s, name := range map[string]string{
		"\\31 x": "1x", "\\-": "-", "--": "--", "-x": "-x", "a\\ b": "a b", "\\.": ".", "\\\"": "\"", "é": "é", "\\a ": "\n", "\\feff ": "\ufeff", "\\0 ": "\ufffd", "\x00": "\ufffd", "\xff": "\ufffd", "A": "A", "n": "n", "not": "not", "root": "root", "i": "i", "odd": "odd", "url": "url", "𝔞": "𝔞", "\\7f ": "\x7f",
	} {
		told(t, s, values(s), side(tag(name)))
		told(t, s, values("."+s), side(class(name)))
		told(t, s, values("#"+s), side(id(name)))
		told(t, s, values("["+s+"/**/]"), side(attr(name, api.OpHas, "", false)))
		told(t, s, values(s+"/**/ > ."+s+"/**/#"+s), row(with(api.CNone, tag(name)), with(api.CChild, class(name), id(name))))
	}
}

// bad: texts that no Name may be; but for the first they are no Value either.
var bad = []string{"", "\x00", "a\x00", "\xff", "a\xc3", "\xed\xa0\x80", "\xc0\x80", "\xf4\x90\x80\x80", "é\x80"}

// good: texts that a Name may be.
var good = []string{"a", "é", "𝔞", "\x01", "\n", "\r", "\f", "\t", " ", "\x7f", "\u0080", "\ufeff", "\ufffd", "\U0010ffff", "\\", "\"", "'", "#", "1", "-", "-1", "--", "a b", "*", "n-1", "i", "]", ")", "/**/", "url(", "K", "\u2028", "\ue000"}

func rawIdent(s string) api.Value  { return api.Value{Tok: api.Token{Kind: api.TIdent, Text: s}} }
func rawDelim(s string) api.Value  { return api.Value{Tok: api.Token{Kind: api.TDelim, Text: s}} }
func rawString(s string) api.Value { return api.Value{Tok: api.Token{Kind: api.TString, Text: s}} }
func rawOne(kind int) api.Value    { return api.Value{Tok: api.Token{Kind: kind}} }

func rawHash(s string, is bool) api.Value {
	return api.Value{Tok: api.Token{Kind: api.THash, Text: s, Id: is}}
}

func rawBlock(l ...api.Value) api.Value {
	return api.Value{Tok: api.Token{Kind: api.TOpenSquare}, Kids: l}
}

func rawFunc(name string, l ...api.Value) api.Value {
	return api.Value{Tok: api.Token{Kind: api.TFunc, Text: name}, Kids: l}
}

func raw(l ...api.Value) []api.Value { return l }

// rawOf: a pseudo-class that is a function.
func rawOf(name string, l ...api.Value) []api.Value {
	return raw(rawOne(api.TColon), rawFunc(name, l...))
}

// P9.1: a Text that becomes a Name, or a Value, in raw tokens.
func TestRawTexts(t *testing.T) {
	for _, s := range bad {
		for i, l := range [][]api.Value{
			raw(rawIdent(s)), raw(rawDelim("."), rawIdent(s)), raw(rawHash(s, true)), raw(rawBlock(rawIdent(s))), raw(rawBlock(rawIdent(s), rawDelim("="), rawIdent("v"))),
			raw(rawIdent("a"), rawOne(api.TSpace), rawIdent(s)), raw(rawIdent("a"), rawOne(api.TComma), rawIdent(s)), rawOf("not", rawIdent(s)),
		} {
			refused(t, []any{s, i}, l, api.ErrSyntax)
		}
		for _, v := range []api.Value{rawIdent(s), rawString(s)} {
			l := raw(rawBlock(rawIdent("a"), rawDelim("="), v))
			if s == "" {
				told(t, "an empty Value", l, side(attr("a", api.OpIs, "", false)))
				continue
			}
			refused(t, s, l, api.ErrSyntax)
		}
	}
	for _, s := range good {
		told(t, s, raw(rawIdent(s), rawDelim("."), rawIdent(s), rawHash(s, true), rawBlock(rawIdent(s), rawDelim("="), rawString(s))), side(tag(s), class(s), id(s), attr(s, api.OpIs, s, false)))
		told(t, s, raw(rawBlock(rawIdent(s), rawDelim("="), rawIdent(s), rawIdent("i"))), side(attr(s, api.OpIs, s, true)))
		refused(t, s, raw(rawHash(s, false)), api.ErrSyntax)
	}
	// A Text that becomes neither is not asked.
	told(t, "a colon's Text", raw(api.Value{Tok: api.Token{Kind: api.TColon, Text: "\xff"}}, rawIdent("root")), side(word(api.SRoot)))
}

// P9.1: a token is known by its kind and its text; the fields that mean nothing in it are not looked at.
func TestRawFields(t *testing.T) {
	odd := api.Token{Kind: api.TIdent, Text: "a", Num: api.Rat{Num: 3, Den: 0}, Int: true, Id: true}
	told(t, "an odd ident", raw(api.Value{Tok: odd, Kids: []api.Value{}}), side(tag("a")))
	odd.Kind = api.THash
	told(t, "an odd hash", raw(api.Value{Tok: odd}), side(id("a")))
	odd.Kind, odd.Text = api.TDelim, "*"
	told(t, "an odd delim", raw(api.Value{Tok: odd}), side(word(api.SAny)))
	odd.Kind = api.TSpace
	told(t, "odd spaces", raw(api.Value{Tok: odd}, rawIdent("a"), api.Value{Tok: odd}, api.Value{Tok: odd}, rawIdent("b"), api.Value{Tok: odd}), row(with(api.CNone, tag("a")), with(api.CDown, tag("b"))))
	for _, s := range []string{"", "**", "* ", ">>", " >", "> ", "\x00", "\xff", "a"} {
		refused(t, s, raw(rawDelim(s)), api.ErrSyntax)
		refused(t, s, raw(rawIdent("a"), rawDelim(s), rawIdent("b")), api.ErrSyntax)
		refused(t, s, raw(rawDelim(s), rawIdent("b")), api.ErrSyntax)
	}
	for _, s := range []string{"", "not(", "root\x00", "\xff", "root ", " root", "not"} {
		refused(t, s, raw(rawOne(api.TColon), rawIdent(s)), api.ErrSyntax)
	}
	for _, s := range []string{"", "root", "not(", "not ", "is\x00", "nth", "child", "nth-"} {
		refused(t, s, rawOf(s, rawIdent("a")), api.ErrSyntax)
		refused(t, s, rawOf(s), api.ErrSyntax)
	}
}

// P9.1: each of the other kinds of token, alone and where a name, an operator, a combinator might stand.
func TestKindsElsewhere(t *testing.T) {
	for kind := api.TIdent; kind <= api.TCloseCurly; kind++ {
		v := api.Value{Tok: api.Token{Kind: kind, Text: "a"}}
		switch kind {
		case api.TIdent, api.TSpace:
			continue
		}
		refused(t, kind, raw(v), api.ErrSyntax)
		refused(t, kind, raw(rawDelim("."), v), api.ErrSyntax)
		refused(t, kind, raw(rawBlock(v)), api.ErrSyntax)
		refused(t, kind, raw(rawIdent("a"), v, rawIdent("b"), rawDelim("*")), api.ErrSyntax)
		refused(t, kind, raw(rawBlock(rawIdent("a"), v)), api.ErrSyntax)
		refused(t, kind, raw(rawBlock(rawIdent("a"), v, rawIdent("b"))), api.ErrSyntax)
		refused(t, kind, raw(rawBlock(rawIdent("a"), rawDelim("~"), v, rawIdent("b"))), api.ErrSyntax)
		if kind != api.TString {
			refused(t, kind, raw(rawBlock(rawIdent("a"), rawDelim("="), v)), api.ErrSyntax)
		}
		refused(t, kind, raw(rawBlock(rawIdent("a"), rawDelim("="), rawIdent("b"), api.Value{Tok: api.Token{Kind: kind, Text: "i"}})), api.ErrSyntax)
		refused(t, kind, rawOf("nth-child", v), api.ErrSyntax)
		refused(t, kind, rawOf("nth-child", rawIdent("n"), v), api.ErrSyntax)
		if kind != api.TComma {
			refused(t, kind, raw(rawIdent("a"), v), api.ErrSyntax)
			refused(t, kind, raw(rawOne(api.TColon), api.Value{Tok: api.Token{Kind: kind, Text: "root"}}), api.ErrSyntax)
			refused(t, kind, raw(rawOne(api.TColon), api.Value{Tok: api.Token{Kind: kind, Text: "hover"}}), api.ErrSyntax)
		}
	}
}

// P9.1: attributes: each operator, with TSpace and without, with each kind of value, with i and s.
func TestAttributes(t *testing.T) {
	ops := map[string]int{"=": api.OpIs, "~=": api.OpWord, "|=": api.OpDash, "^=": api.OpBegins, "$=": api.OpEnds, "*=": api.OpIn}
	spaces := []string{"", " ", "/**/", " /**/ "}
	for s, op := range ops {
		for _, value := range []string{"b", `"b"`, "'b'", `"\62 "`} {
			for i, gap := range spaces {
				other := spaces[(i+1)%len(spaces)]
				text := "[" + gap + "a" + other + s + gap + value + other + "]"
				told(t, text, values(text), side(attr("a", op, "b", false)))
				for flag, fold := range map[string]bool{"i": true, "I": true, "\\49 ": true, "s": false, "S": false, "\\73 ": false} {
					between := gap
					if between == "" && value == "b" {
						between = " "
					}
					text := "[a" + s + value + between + flag + other + "]"
					told(t, text, values(text), side(attr("a", op, "b", fold)))
				}
			}
		}
		told(t, s, values("[a"+s+`""]`), side(attr("a", op, "", false)))
		told(t, s, values("[a"+s+`"" i]`), side(attr("a", op, "", true)))
		told(t, s, values("[a"+s+"i]"), side(attr("a", op, "i", false)))
		told(t, s, values("[a"+s+"i i]"), side(attr("a", op, "i", true)))
		told(t, s, values("[A"+s+"B]"), side(attr("A", op, "B", false)))
		noList(t, "[a"+s+"]", "[a"+s+" ]", "["+s+"b]", "["+s+"]", "[a"+s+"b c]", "[a"+s+"b is]", "[a"+s+"b i i]", "[a"+s+"b i s]", "[a"+s+"b ı]", "[a"+s+"b ſ]", "[a"+s+`b "i"]`, "[a"+s+`b "i" i]`, "[a"+s+"b #i]", "[a"+s+"b i()]", "[a"+s+"b, c]", "[a"+s+"1]", "[a"+s+"#b]", "[a"+s+"(b)]", "[a"+s+"b()]", "[a"+s+"1px]", "[a"+s+"url(b)]", "[a"+s+s+"b]", "[a"+s+"="+"b]", "[a "+s+" = b]", "[a"+s+"*]", "[a b"+s+"c]", "[a][b"+s+"]")
		if len(s) == 2 {
			noList(t, "[a"+s[:1]+" =b]", "[a"+s[:1]+"b]", "[a"+s[:1]+"]", "[a="+s[:1]+"b]", "[a"+s[:1]+s+"b]")
			told(t, s, values("[a"+s[:1]+"/**/"+s[1:]+"b]"), side(attr("a", op, "b", false)))
		}
	}
	told(t, "[a]", values("[ a ]"), side(attr("a", api.OpHas, "", false)))
	told(t, "[a]", values("[/**/a /**/ ]"), side(attr("a", api.OpHas, "", false)))
	noList(t, "[]", "[ ]", "[a b]", "[a i]", "[a/**/i]", "[a,b]", "[.a]", "[#a]", "[*]", "[*|a]", "[|a]", "[a|b]", "[a|b=c]", `["a"]`, "[1]", "[[a]]", "[(a)]", "[a()]", "[a:b]", "[a!=b]", "[a+=b]", "[a>b]", "[a = ]", "a[", "[a;]")
}

// cased: a text in other letters.
func cased(s string) []string {
	mixed := []byte(s)
	for i := range mixed {
		if i%2 == 0 {
			mixed[i] = strings.ToUpper(s)[i]
		}
	}
	return []string{s, strings.ToUpper(s), strings.ToUpper(s[:1]) + s[1:], string(mixed)}
}

// P9.1: the pseudo-classes, by letters alike; each name as a word alone, or as a function alone.
func TestPseudoClasses(t *testing.T) {
	for name, kind := range map[string]int{"root": api.SRoot, "empty": api.SEmpty, "first-child": api.SFirst, "last-child": api.SLast, "only-child": api.SOnly} {
		for _, s := range cased(name) {
			told(t, s, values(":"+s), side(word(kind)))
			told(t, s, values("a:"+s+" b"), row(with(api.CNone, tag("a"), word(kind)), with(api.CDown, tag("b"))))
			noList(t, ":"+s+"()", ":"+s+"(a)", ": "+s, "::"+s, ":"+s+"x", ":x"+s, ":-"+s, ":"+s+"-", `:"`+s+`"`, ":#"+s, s+":")
		}
	}
	for name, kind := range map[string]int{"not": api.SNot, "is": api.SIs, "where": api.SWhere} {
		for _, s := range cased(name) {
			told(t, s, values(":"+s+"(a)"), side(of(kind, side(tag("a")))))
			told(t, s, values(":"+s+"( a , /**/ .b>c )"), side(of(kind, side(tag("a")), row(with(api.CNone, class("b")), with(api.CChild, tag("c"))))))
			told(t, s, values(":"+s+"(:"+s+"(a))"), side(of(kind, side(of(kind, side(tag("a")))))))
			noList(t, ":"+s, ":"+s+" (a)", ":"+s+"()", ":"+s+"( )", ":"+s+"(,)", ":"+s+"(a,)", ":"+s+"(a,,b)", ":"+s+"(> a)", ":"+s+"(a >)", ":"+s+"(1)", ":"+s+"(:hover)", ":"+s+"(::a)", ":"+s+"[a]", ":"+s+"{a}", ":"+s+"x(a)", ":x"+s+"(a)", ": "+s+"(a)", s+"(a)")
		}
	}
	for name, kind := range map[string]int{"nth-child": api.SNth, "nth-last-child": api.SLastOf} {
		for _, s := range cased(name) {
			told(t, s, values(":"+s+"(2n+1)"), side(api.Simple{Kind: kind, A: 2, B: 1}))
			noList(t, ":"+s, ":"+s+" (1)", ":"+s+"()", ":"+s+"( )", ":"+s+"(a)", ":"+s+"(.a)", ":"+s+"(1,2)", ":"+s+"(1 of a)", ":"+s+"(n of a)", ":"+s+"((1))", ":"+s+"[1]", s+"(1)")
		}
	}
	// No letter beyond a to z is alike to one of them: ſ is a long s, ı an i without a point, İ an I with one.
	noList(t, ":hover", ":firſt-child", ":laſt-child", ":ıs(a)", ":iſ(a)", ":İS(a)", ":nth-of-type(1)", ":first-of-type", ":has(a)", ":any(a)", ":matches(a)", ":scope", ":lang(en)", ":nth-last-of-type(1)", ":first", ":last", ":only", ":\\-root", ":root\\ ")
	told(t, "an escape", values(":\\72oot:n\\6ft(a)"), side(word(api.SRoot), of(api.SNot, side(tag("a")))))
}

// P9.1: what may not be is refused ahead of all that is said of its grammar.
func TestWrongValues(t *testing.T) {
	for _, kind := range []int{0, -1, 25, 30, math.MaxInt, math.MinInt, 1<<32 + api.TIdent} {
		refused(t, kind, raw(rawOne(kind)), api.ErrArg)
		refused(t, kind, raw(rawIdent("a"), rawOne(api.TComma), rawOne(kind)), api.ErrArg)
		refused(t, kind, raw(rawOne(api.TComma), rawOne(kind)), api.ErrArg)
		refused(t, kind, raw(rawIdent(""), rawIdent("\xff"), rawOne(kind)), api.ErrArg)
		refused(t, kind, rawOf("hover", rawOne(kind)), api.ErrArg)
		refused(t, kind, raw(rawBlock(rawIdent("a"), rawOne(kind))), api.ErrArg)
	}
	refused(t, "kids of an ident", raw(api.Value{Tok: rawIdent("a").Tok, Kids: raw(rawIdent("b"))}), api.ErrArg)
	refused(t, "kids of a space", raw(api.Value{Tok: api.Token{Kind: api.TSpace}, Kids: raw(rawIdent("b"))}), api.ErrArg)
	self := rawOf("is", rawIdent("a"))
	self[1].Kids = self
	refused(t, "a list in itself", self, api.ErrArg)
}

// wrapped: n functions in one another, around these values.
func wrapped(n int, name string, l ...api.Value) []api.Value {
	for range n {
		l = rawOf(name, l...)
	}
	return l
}

// P9.1, P9.2: lists in one another: as many as component values may be.
func TestDeep(t *testing.T) {
	last := []api.Simple{tag("a"), word(api.SAny), class("a"), id("a"), word(api.SRoot), word(api.SEmpty), word(api.SFirst), word(api.SLast), word(api.SOnly)}
	barred := []api.Simple{attr("a", api.OpHas, "", false), attr("a", api.OpIs, "b", true), nth(1, 2), nthLast(0, 1)}
	for name, kind := range map[string]int{"not": api.SNot, "is": api.SIs, "where": api.SWhere} {
		told(t, name, wrapped(api.MaxNest, name, rawIdent("a")), nest(api.MaxNest+1, kind, tag("a"))...)
		refused(t, name, wrapped(api.MaxNest+1, name, rawIdent("a")), api.ErrArg)
		refused(t, name, wrapped(api.MaxNest, name), api.ErrSyntax)
		refused(t, name, wrapped(api.MaxNest, name, rawBlock(rawIdent("a"))), api.ErrArg)
		refused(t, name, wrapped(api.MaxNest, name, rawOf("nth-child", rawIdent("n"))...), api.ErrArg)
		told(t, name, wrapped(api.MaxNest-1, name, rawBlock(rawIdent("a"))), nest(api.MaxNest, kind, barred[0])...)
		told(t, name, wrapped(api.MaxNest-1, name, rawOf("nth-last-child", rawIdent("n"))...), nest(api.MaxNest, kind, nthLast(1, 0))...)
		for _, s := range append(last, barred...) {
			again(t, s, nest(api.MaxNest, kind, s))
			may(t, s, nest(api.MaxNest+2, kind, s), false)
		}
		for _, s := range last {
			again(t, s, nest(api.MaxNest+1, kind, s))
		}
		for _, s := range barred {
			may(t, s, nest(api.MaxNest+1, kind, s), false)
		}
		may(t, "very deep", nest(60000, kind, tag("a")), false)
	}
	// The last of so many may stand beside others, and so may what is barred in it.
	mixed := nest(api.MaxNest+1, api.SIs, tag("a"))
	mixed[0].Parts[0].Simples = append(mixed[0].Parts[0].Simples, attr("a", api.OpHas, "", false))
	again(t, "mixed", mixed)
	self := lone(of(api.SIs))
	self[0].Parts[0].Simples[0].List = self
	may(t, "a list in itself", self, false)
	refused(t, "very deep", wrapped(60000, "is", rawIdent("a")), api.ErrArg)
}

// may: may the list be? If not, there is neither text nor weight.
func may(t *testing.T, what any, l []api.Complex, want bool) {
	t.Helper()
	if May(l) != want {
		t.Errorf("%v: %v", what, !want)
	}
	text, e := Text(l)
	if (e == api.OK) != want || !want && (e != api.ErrArg || text != "") {
		t.Errorf("%v: its text %q %d", what, text, e)
	}
	if len(l) != 1 {
		return
	}
	if w, e := Weigh(l[0]); (e == api.OK) != want || !want && (e != api.ErrArg || w != api.Weight{}) {
		t.Errorf("%v: weighs %v %d", what, w, e)
	}
}
