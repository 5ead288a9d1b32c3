package rule

import (
	"math"
	"reflect"
	"strconv"
	"strings"
	"testing"

	"jalousie/api"
	"jalousie/tok"
)

func one(kind int) api.Token      { return api.Token{Kind: kind} }
func ident(s string) api.Token    { return api.Token{Kind: api.TIdent, Text: s} }
func delim(s string) api.Token    { return api.Token{Kind: api.TDelim, Text: s} }
func at(s string) api.Token       { return api.Token{Kind: api.TAt, Text: s} }
func tokens(s string) []api.Token { return tok.Bytes([]byte(s)) }
func values(s string) []api.Value { return Values(tokens(s)) }

// leaf: a value of a token alone.
func leaf(kind int) api.Value { return api.Value{Tok: one(kind)} }

// under: values under a token of this kind.
func under(kind int, kids ...api.Value) api.Value { return api.Value{Tok: one(kind), Kids: kids} }

// chain: n openers in one another, the innermost without Kids.
func chain(n int) []api.Value {
	var l []api.Value
	for range n {
		l = []api.Value{under(api.TOpenParen, l...)}
	}
	return l
}

// nested: a text of n parentheses in one another.
func nested(n int) string { return strings.Repeat("(", n) + "x" + strings.Repeat(")", n) }

// signs: the kinds that have no text of their own; a closer that closes nothing is told from one that does.
var signs = map[int]string{api.TSpace: " ", api.TComma: ",", api.TColon: ":", api.TSemi: ";", api.TCdo: "<!--", api.TCdc: "-->", api.TCloseParen: "<)>", api.TCloseSquare: "<]>", api.TCloseCurly: "<}>", api.TOpenParen: "(", api.TOpenSquare: "[", api.TOpenCurly: "{"}

var closers = map[int]string{api.TFunc: ")", api.TOpenParen: ")", api.TOpenSquare: "]", api.TOpenCurly: "}"}

// show: component values in short.
func show(l []api.Value) string {
	var b strings.Builder
	for _, v := range l {
		switch v.Tok.Kind {
		case api.TFunc:
			b.WriteString(v.Tok.Text + "(")
		case api.TAt:
			b.WriteString("@" + v.Tok.Text)
		case api.THash:
			b.WriteString("#" + v.Tok.Text)
		case api.TNumber:
			b.WriteString(strconv.FormatInt(v.Tok.Num.Num, 10))
		default:
			b.WriteString(signs[v.Tok.Kind] + v.Tok.Text)
		}
		b.WriteString(show(v.Kids) + closers[v.Tok.Kind])
	}
	return b.String()
}

func showDecls(l []api.Decl) string {
	s := ""
	for _, d := range l {
		s += d.Name + "=" + show(d.Value)
		if d.Important {
			s += "!!"
		}
		s += ";"
	}
	return s
}

func showRules(l []api.Rule) string {
	s := ""
	for _, r := range l {
		if r.Kind == api.RGroup {
			s += "@" + r.Name + "|"
		}
		s += show(r.Prelude) + "{" + showDecls(r.Decls) + showRules(r.Rules) + "}"
	}
	return s
}

// P5.1
func TestValues(t *testing.T) {
	for _, c := range [][2]string{
		{"", ""}, {" ", " "}, {"a b", "a b"}, {"a/**/b", "ab"}, {"(a)", "(a)"}, {"[a]", "[a]"}, {"{a}", "{a}"}, {"f(a)", "f(a)"},
		{"()", "()"}, {"(", "()"}, {"[", "[]"}, {"{", "{}"}, {"f(", "f()"}, {"()()", "()()"}, {"([{f(a)}])", "([{f(a)}])"}, {"([{f(a", "([{f(a)}])"}, {"f(g(h(", "f(g(h()))"},
		{")", "<)>"}, {"]", "<]>"}, {"}", "<}>"}, {") ] }", "<)> <]> <}>"}, {"a)b", "a<)>b"}, {"())", "()<)>"}, {"f())", "f()<)>"}, {"[]]}", "[]<]><}>"},
		{"(]", "(<]>)"}, {"(}", "(<}>)"}, {"[)", "[<)>]"}, {"[}", "[<}>]"}, {"{)", "{<)>}"}, {"{]", "{<]>}"}, {"f(]", "f(<]>)"}, {"f(}", "f(<}>)"},
		{"[(])", "[(<]>)]"}, {"{[}]", "{[<}>]}"}, {"{(}", "{(<}>)}"}, {"f(a [b) c] d", "f(a [b<)> c] d)"}, {"(a]b)c", "(a<]>b)c"}, {"{a(b}c)d}e", "{a(b<}>c)d}e"},
		{"@a{b;c}d", "@a{b;c}d"}, {"<!-- -->", "<!-- -->"}, {"#a(b)", "#a(b)"}, {"url(x)", "x"},
	} {
		if got := show(values(c[0])); got != c[1] {
			t.Errorf("%q: %s, not %s", c[0], got, c[1])
		}
	}
}

// P5.1: tokens stay as they are, whatever is in them; a closer that closes goes.
func TestValuesRaw(t *testing.T) {
	odd := func(kind int) api.Token {
		return api.Token{Kind: kind, Text: "\xffA", Num: api.Rat{Num: 7, Den: -3}, Int: true, Id: true}
	}
	for kind := -2; kind <= 27; kind++ {
		want := []api.Value{{Tok: odd(kind)}}
		if got := Values([]api.Token{odd(kind)}); !reflect.DeepEqual(got, want) {
			t.Errorf("%d: %v", kind, got)
		}
	}
	for _, kind := range []int{math.MinInt, math.MaxInt, 1 << 32, 1<<32 + api.TOpenParen, -api.TOpenParen} {
		want := []api.Value{{Tok: odd(kind)}, {Tok: odd(api.TCloseParen)}}
		if got := Values([]api.Token{odd(kind), odd(api.TCloseParen)}); !reflect.DeepEqual(got, want) {
			t.Errorf("%d: %v", kind, got)
		}
	}
	for kind, closer := range map[int]int{api.TFunc: api.TCloseParen, api.TOpenParen: api.TCloseParen, api.TOpenSquare: api.TCloseSquare, api.TOpenCurly: api.TCloseCurly} {
		want := []api.Value{{Tok: odd(kind), Kids: []api.Value{{Tok: odd(0)}}}, {Tok: odd(closer)}}
		if got := Values([]api.Token{odd(kind), odd(0), odd(closer), odd(closer)}); !reflect.DeepEqual(got, want) {
			t.Errorf("%d: %v", kind, got)
		}
	}
}

// P5.1
func TestFlat(t *testing.T) {
	x := api.Value{Tok: ident("x")}
	for _, c := range []struct {
		l    []api.Value
		want []api.Token
	}{
		{nil, nil},
		{[]api.Value{x, x}, []api.Token{ident("x"), ident("x")}},
		{[]api.Value{under(api.TFunc), x}, []api.Token{one(api.TFunc), one(api.TCloseParen), ident("x")}},
		{[]api.Value{under(api.TOpenParen, x)}, []api.Token{one(api.TOpenParen), ident("x"), one(api.TCloseParen)}},
		{[]api.Value{under(api.TOpenSquare, x, x)}, []api.Token{one(api.TOpenSquare), ident("x"), ident("x"), one(api.TCloseSquare)}},
		{[]api.Value{under(api.TOpenCurly, under(api.TOpenSquare), x)}, []api.Token{one(api.TOpenCurly), one(api.TOpenSquare), one(api.TCloseSquare), ident("x"), one(api.TCloseCurly)}},
		{[]api.Value{leaf(api.TCloseParen), leaf(0), leaf(25)}, []api.Token{one(api.TCloseParen), one(0), one(25)}},
		// the closer has none of the opener's fields
		{[]api.Value{{Tok: api.Token{Kind: api.TFunc, Text: "f", Int: true}}}, []api.Token{{Kind: api.TFunc, Text: "f", Int: true}, one(api.TCloseParen)}},
		// Kids under what is no opener
		{[]api.Value{{Tok: ident("a"), Kids: []api.Value{x, under(api.TOpenParen, x)}}, x}, []api.Token{ident("a"), ident("x"), one(api.TOpenParen), ident("x"), one(api.TCloseParen), ident("x")}},
		{[]api.Value{under(api.TCloseParen, x), under(0, x), under(99, under(-1, x))}, []api.Token{one(api.TCloseParen), ident("x"), one(0), ident("x"), one(99), one(-1), ident("x")}},
	} {
		if got := Flat(c.l); !reflect.DeepEqual(got, c.want) {
			t.Errorf("%v: %v", c.l, got)
		}
	}
}

// P5.1
func TestMay(t *testing.T) {
	for kind := api.TIdent; kind <= api.TCloseCurly; kind++ {
		if !May([]api.Value{{Tok: api.Token{Kind: kind, Text: "\xff", Int: true, Id: true, Num: api.Rat{Den: -1}}, Kids: []api.Value{}}}) {
			t.Errorf("%d may be, whatever its fields are", kind)
		}
		with := May([]api.Value{under(kind, leaf(api.TCloseCurly))})
		if with != (closers[kind] != "") {
			t.Errorf("%d with Kids: %v", kind, with)
		}
	}
	for _, kind := range []int{0, -1, 25, 26, 99, -api.TIdent, math.MaxInt, math.MinInt} {
		for _, l := range [][]api.Value{{leaf(kind)}, {leaf(api.TIdent), leaf(kind)}, {leaf(kind), leaf(api.TIdent)}, {under(api.TFunc, under(api.TOpenSquare, leaf(kind)))}, {under(kind, leaf(api.TIdent))}} {
			if May(l) {
				t.Errorf("there is no kind %d: %v", kind, l)
			}
		}
	}
	if !May(nil) || !May([]api.Value{}) {
		t.Error("none at all may be")
	}
	for n := range 200 {
		if May(chain(n)) != (n <= api.MaxNest) {
			t.Errorf("%d openers in one another: %v", n, May(chain(n)))
		}
		wide := append(append([]api.Value{leaf(api.TComma), under(api.TFunc)}, chain(n)...), leaf(api.TIdent))
		if May(wide) != (n <= api.MaxNest) {
			t.Errorf("%d openers in one another, not first: %v", n, May(wide))
		}
	}
	// how deep goes by what is in one another, not by how many there are
	if !May(values(strings.Repeat("([{f(a)}])", 100))) {
		t.Error("many side by side may be")
	}
	if May([]api.Value{under(api.TFunc, under(api.TOpenCurly, under(api.TIdent, leaf(api.TIdent))))}) || May([]api.Value{leaf(api.TIdent), under(api.TSpace, leaf(api.TSpace))}) {
		t.Error("only openers have Kids")
	}
}

// P5.1: a list that holds itself is too deep.
func TestMayRound(t *testing.T) {
	l := []api.Value{leaf(api.TIdent), leaf(api.TOpenParen)}
	l[1].Kids = l
	if May(l) {
		t.Error("it may be")
	}
}

// P5.1
func TestTrim(t *testing.T) {
	for _, c := range [][2]string{
		{"", ""}, {" ", ""}, {" /**/ /**/ ", ""}, {"a", "a"}, {" a", "a"}, {"a ", "a"}, {" /**/ a b /**/ ", "a b"}, {"a /**/ b", "a  b"},
		{" ( a ) ", "( a )"}, {" ,", ","}, {", ", ","}, {" ) ", "<)>"}, {"( ", "( )"}, {" f( ", "f( )"},
	} {
		if got := show(Trim(values(c[0]))); got != c[1] {
			t.Errorf("%q: %q", c[0], got)
		}
	}
	raw := []api.Value{under(api.TSpace, leaf(api.TIdent)), under(99, leaf(api.TSpace)), leaf(api.TSpace)}
	if got := Trim(raw); !reflect.DeepEqual(got, []api.Value{under(99, leaf(api.TSpace))}) {
		t.Error(got)
	}
}

// P5.1
func TestSplit(t *testing.T) {
	for _, c := range [][2]string{
		{"", ""}, {" ", ""}, {" /**/ ", ""}, {",", "|"}, {",,,", "|||"}, {" , , ", "||"}, {"a", "a"}, {" a b , f(x,y),,", "a b|f(x,y)||"},
		{"a,b", "a|b"}, {" a , b ", "a|b"}, {",a", "|a"}, {"a,", "a|"}, {"(a,b),[c,d],{e,f}", "(a,b)|[c,d]|{e,f}"}, {"),(", "<)>|()"}, {"a (,", "a (,)"}, {"a b c", "a b c"},
	} {
		var pieces []string
		for _, p := range Split(values(c[0])) {
			pieces = append(pieces, show(p))
		}
		if got := strings.Join(pieces, "|"); len(pieces) == 0 || got != c[1] {
			t.Errorf("%q: %q", c[0], got)
		}
	}
	if got := Split(nil); len(got) != 1 || len(got[0]) != 0 {
		t.Error(got)
	}
	raw := []api.Value{leaf(99), under(api.TComma, leaf(api.TIdent), leaf(api.TComma)), under(0, leaf(api.TComma))}
	if got := Split(raw); !reflect.DeepEqual(got, [][]api.Value{{leaf(99)}, {under(0, leaf(api.TComma))}}) {
		t.Error(got)
	}
}

var declTable = [][2]string{
	{"", ""}, {" ", ""}, {";", ""}, {" ; ;; ", ""}, {"b:c", "b=c;"}, {" b : c ", "b=c;"}, {"b:c;d;e:f!important;;g:", "b=c;e=f!!;g=;"}, {"B:c;--B:c", "b=c;--B=c;"},
	// without a TColon, without a TIdent
	{"b", ""}, {"b ", ""}, {"b c:d", ""}, {"b;c:d", "c=d;"}, {"b(:c;d:e", ""}, {"b():c;d:e", "d=e;"}, {"1:c;d:e", "d=e;"}, {":c", ""}, {"#b:c;d:e", "d=e;"}, {"\"b\":c;d:e", "d=e;"}, {"!b:c;d:e", "d=e;"}, {",b:c;d:e", "d=e;"}, {"{x:y}b:c;d:e", "d=e;"}, {"):c;d:e", "d=e;"}, {"<!-- b:c;d:e", "d=e;"}, {"--> b:c;d:e", "d=e;"}, {"b{c:d}e:f;g:h", "g=h;"},
	// no value
	{"b:", "b=;"}, {"b: ", "b=;"}, {"b:;", "b=;"}, {"b :/**/ /**/ ;c:d", "b=;c=d;"}, {"b/**/ /**/ /**/:c", "b=c;"},
	// names
	{"ABC-Z:c", "abc-z=c;"}, {"ÄK:c", "Äk=c;"}, {"-B:c", "-b=c;"}, {"--:c", "--=c;"}, {"--Ab-C:D", "--Ab-C=D;"}, {`-\2d B:c`, "--B=c;"}, {`\--B:c`, "--B=c;"}, {"-b-B:c;_B:C", "-b-b=c;_b=C;"},
	// values
	{"b::c", "b=:c;"}, {"b:c:d", "b=c:d;"}, {"b:c d  e", "b=c d e;"}, {"b:c /**/ d", "b=c  d;"}, {"b:(1;2);c:d", "b=(1;2);c=d;"}, {"b:{c;d};e:f", "b={c;d};e=f;"}, {"b:{c:d} e", "b={c:d} e;"}, {"b:f(;);c:d", "b=f(;);c=d;"}, {"b:[;];c:d", "b=[;];c=d;"}, {"b:);c:d", "b=<)>;c=d;"}, {"b:(;c:d", "b=(;c:d);"}, {"b:( ", "b=( );"}, {"b:@c;d:e", "b=@c;d=e;"}, {"b:@c{d}e;f:g", "b=@c{d}e;f=g;"}, {"b:<!-- c -->", "b=<!-- c -->;"},
	// at-rules
	{"@x;b:c", "b=c;"}, {"@x b:c;d:e", "d=e;"}, {"@y{d:e}f:g", "f=g;"}, {"@y z{d:e;f:g};h:i", "h=i;"}, {"@x", ""}, {"@x;", ""}, {"@x{", ""}, {"b:c;@x{};d:e", "b=c;d=e;"}, {"@x(;{)a;b:c", ""}, {"@x(;{})a;b:c", "b=c;"}, {"@x[{a}];b:c", "b=c;"}, {"@media x{b:c}d:e", "d=e;"}, {"@x{}{}b:c;d:e", "d=e;"}, {"@x);b:c", "b=c;"}, {"@a @b{}c:d", "c=d;"}, {"@b:c;d:e", "d=e;"},
	// important
	{"b:c!important", "b=c!!;"}, {"b:c !important", "b=c!!;"}, {"b:c! important", "b=c!!;"}, {"b:c !/**/ /**/ important /**/ ", "b=c!!;"}, {"b:c d ! IMPORTANT ;e : (1;2) ]", "b=c d!!;e=(1;2) <]>;"}, {"b:c /**/ /**/ !ImPoRtAnT", "b=c!!;"}, {`b:c!\69mportant`, "b=c!!;"},
	{"b:!important", "b=!!;"}, {"b: ! important ", "b=!!;"}, {"b:important", "b=important;"}, {"b:c important", "b=c important;"}, {"b:!", "b=!;"}, {"b:c!", "b=c!;"}, {"b:! important x", "b=! important x;"}, {"b:!important x", "b=!important x;"}, {"b:! x important", "b=! x important;"}, {"b:!()important", "b=!()important;"},
	{"b:c!important!important", "b=c!important!!;"}, {"b:c !important !important", "b=c !important!!;"}, {"b:c!!important", "b=c!!!;"}, {"b:c!important important", "b=c!important important;"}, {"b:c !/**/,important", "b=c !,important;"},
	{"b:c!importan", "b=c!importan;"}, {"b:c!importants", "b=c!importants;"}, {"b:c!\"important\"", "b=c!important;"}, {"b:c!#important", "b=c!#important;"}, {"b:c!important()", "b=c!important();"}, {"b:c!@important", "b=c!@important;"}, {"b:c#important", "b=c#important;"}, {"b:c+important", "b=c+important;"}, {"b:c,important", "b=c,important;"}, {"b:(!important)", "b=(!important);"}, {"b:(c!)important", "b=(c!)important;"}, {"b:(c!important", "b=(c!important);"}, {"!important", ""}, {"b!important:c", ""}, {"important:!important", "important=!!;"}, {"b:c!ımportant;d:e!importanṭ", "b=c!ımportant;d=e!importanṭ;"},
}

// P5.2
func TestDecls(t *testing.T) {
	for _, c := range declTable {
		if got := showDecls(Decls(tokens(c[0]))); got != c[1] {
			t.Errorf("%q: %s, not %s", c[0], got, c[1])
		}
		if got := showRules(Rules(tokens("a{" + c[0]))); got != "a{"+c[1]+"}" {
			t.Errorf("a{%q: %s", c[0], got)
		}
	}
	if got := showDecls(Decls(tokens("b:};c:d"))); got != "b=<}>;c=d;" {
		t.Error(got)
	}
	if got := Decls(tokens("a:b!important")); !reflect.DeepEqual(got, []api.Decl{{Name: "a", Value: []api.Value{{Tok: ident("b")}}, Important: true}}) {
		t.Error(got)
	}
}

// P5.2, P5.6
func TestDeclsDeep(t *testing.T) {
	deep := nested(api.MaxNest)
	for _, c := range [][2]string{
		{"b:" + deep, "b=" + deep + ";"}, {"b:(" + deep + ");c:d", "c=d;"}, {"a:b;b:x [" + deep + "] y!important;c:d", "a=b;c=d;"}, {"b:" + deep + deep + " " + deep + "!important;c:d", "b=" + deep + deep + " " + deep + "!!;c=d;"},
		{"b:" + strings.Repeat("(", 64), "b=" + strings.Repeat("(", 64) + strings.Repeat(")", 64) + ";"}, {"b:" + strings.Repeat("(", 65), ""}, {"b:" + strings.Repeat("f([", 32) + ";c:d", "b=" + strings.Repeat("f([", 32) + ";c:d" + strings.Repeat("])", 32) + ";"}, {"b:{" + strings.Repeat("f([", 32), ""},
		{"(" + deep + "):x;b:c", "b=c;"}, {"b(" + deep + "):x;b:c", "b=c;"}, {"@x (" + deep + "){}b:c", "b=c;"}, {"@x {(" + deep + ")}b:c;@y(" + deep + ");d:e", "b=c;d=e;"}, {"b:()()" + strings.Repeat("()", 100), "b=()()" + strings.Repeat("()", 100) + ";"},
		{"b:(()" + deep + ");c:(" + nested(63) + "())", "c=(" + nested(63) + "());"}, {"b:(" + deep + "());c:d", "c=d;"},
	} {
		if got := showDecls(Decls(tokens(c[0]))); got != c[1] {
			t.Errorf("%q: %s, not %s", c[0], got, c[1])
		}
	}
}

// P5.2: tokens raw.
func TestDeclsRaw(t *testing.T) {
	colon, mark, word := one(api.TColon), delim("!"), ident("IMPORTANT")
	for _, c := range []struct {
		l    []api.Token
		want []api.Decl
	}{
		{[]api.Token{ident("\xffA\xc3"), colon}, []api.Decl{{Name: "\xffa\xc3"}}},
		{[]api.Token{ident("--\xffA"), colon, one(0)}, []api.Decl{{Name: "--\xffA", Value: []api.Value{leaf(0)}}}},
		{[]api.Token{ident(""), colon}, []api.Decl{{}}},
		{[]api.Token{{Kind: api.TIdent, Text: "@[`{AZ", Int: true}, {Kind: api.TColon, Text: "x"}}, []api.Decl{{Name: "@[`{az"}}},
		{[]api.Token{one(0), colon}, nil},
		{[]api.Token{one(25), ident("a"), colon, one(api.TSemi), ident("b"), colon}, []api.Decl{{Name: "b"}}},
		{[]api.Token{ident("a"), one(0), colon}, nil},
		{[]api.Token{ident("a"), colon, mark, one(api.TSpace), one(api.TSpace), word, one(api.TSpace)}, []api.Decl{{Name: "a", Important: true}}},
		{[]api.Token{ident("a"), colon, mark, one(0), word}, []api.Decl{{Name: "a", Value: []api.Value{{Tok: mark}, leaf(0), {Tok: word}}}}},
		{[]api.Token{ident("a"), colon, {Kind: api.TString, Text: "!"}, word}, []api.Decl{{Name: "a", Value: []api.Value{{Tok: api.Token{Kind: api.TString, Text: "!"}}, {Tok: word}}}}},
		{[]api.Token{ident("a"), colon, {Kind: api.TDelim, Text: "!", Id: true}, {Kind: api.TIdent, Text: "important", Int: true}}, []api.Decl{{Name: "a", Important: true}}},
		{[]api.Token{ident("a"), colon, delim("!!"), word}, []api.Decl{{Name: "a", Value: []api.Value{{Tok: delim("!!")}, {Tok: word}}}}},
		{[]api.Token{ident("a"), colon, mark, {Kind: 99, Text: "important"}}, []api.Decl{{Name: "a", Value: []api.Value{{Tok: mark}, {Tok: api.Token{Kind: 99, Text: "important"}}}}}},
	} {
		if got := Decls(c.l); !reflect.DeepEqual(got, c.want) {
			t.Errorf("%v: %v, not %v", c.l, got, c.want)
		}
	}
}

var ruleTable = [][2]string{
	// the chapter's examples
	{"a { b : c }", "a{b=c;}"}, {"a{b:c;d;e:f!important;;g:}", "a{b=c;e=f!!;g=;}"}, {"@media x { a{} } b{}", "@media|x{a{}}b{}"}, {"@MEDIA x; a{} @font{b}", "a{}"}, {"a { @media x {} b:c }", "a{b=c;}"}, {"@media ( { a{} }", ""}, {"a{B:c;--B:c}", "a{b=c;--B=c;}"}, {"} a{}", "<}> a{}"}, {"<!-- a{}", "a{}"}, {"@media x{<!-- a{}}", "@media|x{<!-- a{}}"},

	{"", ""}, {" ", ""}, {" /**/ /**/ ", ""}, {"a{}", "a{}"}, {" a {} ", "a{}"}, {"a{}b{}", "a{}b{}"}, {"{}", "{}"}, {" {x:y}", "{x=y;}"}, {"{}{}", "{}{}"}, {"a /**/ b/**/c{}", "a  bc{}"},
	// without a block
	{"a", ""}, {"a b;", ""}, {"a;b{}", "a;b{}"}, {"a{} b", "a{}"}, {"a ({b:c}", ""}, {"a[{}]", ""}, {"a[{}]{b:c}", "a[{}]{b=c;}"}, {"f({}){}", "f({}){}"},
	// openers that are never closed; closers that close nothing
	{"a{", "a{}"}, {"a{b:c", "a{b=c;}"}, {"a{b:c;", "a{b=c;}"}, {"a{b:(c} d{}", "a{b=(c<}> d{});}"}, {"a{b:c]}d{}", "a{b=c<]>;}d{}"}, {")a{}", "<)>a{}"}, {"a{}}b{}", "a{}<}>b{}"}, {"@media x{a{}}}b{}", "@media|x{a{}}<}>b{}"}, {"@media x{)a{}", "@media|x{<)>a{}}"}, {"@media x{a{}]b{}", "@media|x{a{}<]>b{}}"}, {"@media x)]}{a{}}", "@media|x<)><]><}>{a{}}"}, {"@media x}{a{}}", "@media|x<}>{a{}}"}, {"@media x{a}b{}", "@media|x{}b{}"},
	// at-rules: with a TSemi, with a block, with neither
	{"@media;", ""}, {"@media;a{}", "a{}"}, {"@media x", ""}, {"@media", ""}, {"@media{", "@media|{}"}, {"@media{}", "@media|{}"}, {"@media{};a{}", "@media|{};a{}"}, {"@media x{}a{}", "@media|x{}a{}"}, {"@media x;{}", "{}"}, {"@media (;){a{}}", "@media|(;){a{}}"}, {"@media [{}]{a{}}", "@media|[{}]{a{}}"}, {"@media @media{a{}}", "@media|@media{a{}}"}, {"a @media{b:c}", "a @media{b=c;}"}, {"@media /**/ x /**/ y /**/ {}", "@media|x  y{}"},
	{"@supports x{a{}}", "@supports|x{a{}}"}, {"@container n (x){a{}}", "@container|n (x){a{}}"}, {"@font{b}", ""}, {"@font{a{}}b{}", "b{}"}, {"@import x;a{}", "a{}"}, {"@medi{}", ""}, {"@medias{}", ""}, {"@-media{}", ""}, {"@font ({}) x{y{}} z{}", "z{}"}, {"@font", ""}, {"@font{", ""}, {"@font{@media x{a{}}}b{}", "b{}"}, {"@media x{@font{b}c{}}", "@media|x{c{}}"}, {"@media x{@font;c{}}", "@media|x{c{}}"}, {"@media x{@font", "@media|x{}"}, {"@page{a:b}@media{c:d}", "@media|{}"},
	// names in great letters
	{"@MEDIA{}@SuPports{}@CONTAINER{}", "@media|{}@supports|{}@container|{}"}, {`@\6d EDIA{}`, "@media|{}"}, {"@medıa{}", ""}, {"@mediaK{}", ""}, {"@Media A{A{B:C}}", "@media|A{A{b=C;}}"},
	// groups in one another
	{"@media x{@supports y{a{b:c}}d{}}e{}", "@media|x{@supports|y{a{b=c;}}d{}}e{}"}, {"@container n (x) { @media y { a{b:c} } c{} ", "@container|n (x){@media|y{a{b=c;}}c{}}"}, {"@media x{@media y;a{}}", "@media|x{a{}}"}, {"@media x{@media y}a{}", "@media|x{}a{}"}, {"@media x{@media y{}@media z{}}", "@media|x{@media|y{}@media|z{}}"}, {"@media x{a:b;c:d}", "@media|x{}"}, {"@media x{a:b;c{d:e}}", "@media|x{a:b;c{d=e;}}"}, {"@media x{;a{}}", "@media|x{;a{}}"},
	// TCdo and TCdc
	{"-->a{}<!--b{}", "a{}b{}"}, {"<!---->a{}<!-- --> ", "a{}"}, {"a <!-- b{}", "a <!-- b{}"}, {"a<!--{}", "a<!--{}"}, {"<!-- @media x{}", "@media|x{}"}, {"@media <!-- x{}", "@media|<!-- x{}"}, {"@media x{-->a{}}", "@media|x{-->a{}}"}, {"@media x{ --> }a{}", "@media|x{}a{}"}, {"@media x{<!-- @media y{}a{}}", "@media|x{<!-- @media y{}a{}}"}, {"@media x{@media y{<!--a{}}}-->b{}", "@media|x{@media|y{<!--a{}}}b{}"}, {"@media x{}<!--a{}", "@media|x{}a{}"}, {"a{<!--b:c;d:e}", "a{d=e;}"},
	// declarations of a block
	{"a{b{c:d}e:f;g:h}i{j:k}", "a{g=h;}i{j=k;}"}, {"a{@x;b:c;@y{d:e}f:g}", "a{b=c;f=g;}"}, {"a{b:{c:d}}e{f:g}", "a{b={c:d};}e{f=g;}"},
}

// P5.2, P5.3
func TestRules(t *testing.T) {
	for _, c := range ruleTable {
		if got := showRules(Rules(tokens(c[0]))); got != c[1] {
			t.Errorf("%q: %s, not %s", c[0], got, c[1])
		}
		if got, e := Sheet([]byte(c[0])); e != api.OK || showRules(got) != c[1] {
			t.Errorf("%q: %s %d, not %s", c[0], showRules(got), e, c[1])
		}
	}
	want := []api.Rule{
		{Kind: api.RGroup, Name: "media", Prelude: []api.Value{{Tok: ident("x")}}, Rules: []api.Rule{{Kind: api.RStyle, Prelude: []api.Value{{Tok: ident("a")}}}}},
		{Kind: api.RStyle, Decls: []api.Decl{{Name: "b", Value: []api.Value{{Tok: ident("c")}}}}},
	}
	if got := Rules(tokens("@MEDIA x{a{}}{b:c}")); !reflect.DeepEqual(got, want) {
		t.Error(got)
	}
}

// P5.2, P5.6: rules nested just MaxNest deep, and deeper.
func TestRulesDeep(t *testing.T) {
	groups := func(n int, inner string) string {
		return strings.Repeat("@media x{", n) + inner + strings.Repeat("}", n) + "z{}"
	}
	told := func(n int, inner string) string {
		return strings.ReplaceAll(groups(n, inner), "@media x", "@media|x")
	}
	deep := nested(api.MaxNest)
	for _, c := range [][2]string{
		{groups(63, "a{}"), told(63, "a{}")}, {groups(63, "@media x{}"), told(64, "")}, {groups(64, ""), told(64, "")}, {groups(64, "a{}"), told(64, "")}, {groups(65, ""), told(64, "")}, {groups(65, "a{b:c}"), told(64, "")}, {groups(200, "a{}"), told(64, "")}, {groups(62, "a{}@media x{b{}@media x{c{}@media x{d{}}e{}}f{}}g{}"), told(62, "a{}@media x{b{}@media x{}f{}}g{}")},
		{strings.Repeat("@media x{", 70), strings.Repeat("@media|x{", 64) + strings.Repeat("}", 64)},
		{"(" + deep + "){a:b} " + deep + "{}", deep + "{}"}, {"a[" + deep + "]b{c:d}e{}", "e{}"}, {"@media (" + deep + "){a{}}b{}", "b{}"}, {"@media x " + deep + "{a{}}b{}", "@media|x " + deep + "{a{}}b{}"}, {"@media x{(" + deep + "){}a{}}", "@media|x{a{}}"}, {"@font (" + deep + "){}a{}", "a{}"}, {deep + deep + "{}", deep + deep + "{}"},
		// the block itself is none of the values ahead of it
		{"a{b:(" + deep + ");c:d}e{}", "a{c=d;}e{}"}, {groups(63, "a{b:"+deep+";c:("+deep+")}"), told(63, "a{b="+deep+";}")},
		{strings.Repeat("(", 64) + ")", ""}, {strings.Repeat("(", 65) + strings.Repeat(")", 65) + "{}a{}", "a{}"},
	} {
		if got := showRules(Rules(tokens(c[0]))); got != c[1] {
			t.Errorf("%q: %s, not %s", c[0], got, c[1])
		}
	}
}

// P5.2: tokens raw.
func TestRulesRaw(t *testing.T) {
	open, shut := one(api.TOpenCurly), one(api.TCloseCurly)
	for _, c := range []struct {
		l    []api.Token
		want []api.Rule
	}{
		{[]api.Token{one(0), open, shut}, []api.Rule{{Kind: api.RStyle, Prelude: []api.Value{leaf(0)}}}},
		{[]api.Token{one(-5), one(25), {Kind: api.TOpenCurly, Text: "x"}, {Kind: api.TCloseCurly, Text: "y"}}, []api.Rule{{Kind: api.RStyle, Prelude: []api.Value{leaf(-5), leaf(25)}}}},
		{[]api.Token{at("mediA"), open, shut, {Kind: api.TAt, Text: "Container", Id: true}, open}, []api.Rule{{Kind: api.RGroup, Name: "media"}, {Kind: api.RGroup, Name: "container"}}},
		{[]api.Token{at(""), open, shut, at("media\xff"), open, shut, at(" media"), open, shut}, nil},
		{[]api.Token{{Kind: api.TSpace, Text: "x"}, {Kind: api.TCdc, Text: "x"}, open}, []api.Rule{{Kind: api.RStyle}}},
		{[]api.Token{ident("media"), open, shut, {Kind: api.TFunc, Text: "media"}, open, shut}, []api.Rule{{Kind: api.RStyle, Prelude: []api.Value{{Tok: ident("media")}}}}},
		{[]api.Token{one(0)}, nil},
	} {
		if got := Rules(c.l); !reflect.DeepEqual(got, c.want) {
			t.Errorf("%v: %v, not %v", c.l, got, c.want)
		}
	}
}

// P5.3
func TestSheetLong(t *testing.T) {
	full := "a{b:c}" + strings.Repeat(" ", api.MaxText-12) + "d{e:f}"
	if got, e := Sheet([]byte(full)); e != api.OK || showRules(got) != "a{b=c;}d{e=f;}" {
		t.Error(showRules(got), e)
	}
	for _, s := range []string{full + " ", " " + full, strings.Repeat("a{}", api.MaxText), strings.Repeat("é{}", (api.MaxText+3)/4+1)} {
		if got, e := Sheet([]byte(s)); e != api.ErrLong || got != nil {
			t.Error(len(s), got, e)
		}
	}
	// bytes count, not characters
	if got, e := Sheet([]byte(strings.Repeat("é{}", api.MaxText/4))); e != api.OK || len(got) != api.MaxText/4 {
		t.Error(len(got), e)
	}
	for _, b := range [][]byte{nil, {}} {
		if got, e := Sheet(b); e != api.OK || len(got) != 0 {
			t.Error(got, e)
		}
	}
}

// P5.3: Sheet reads bytes as tok does.
func TestSheetBytes(t *testing.T) {
	for _, b := range []string{"\xef\xbb\xbfa{}", "a\x00{b\r\n:c\f}", "\xff{\xc3:\xed\xa0\x80}", "a{b:\"c\n}d", "url(x{}", "a{b:c\\"} {
		got, e := Sheet([]byte(b))
		if e != api.OK || !reflect.DeepEqual(got, Rules(tok.Bytes([]byte(b)))) {
			t.Errorf("%q: %v %d", b, got, e)
		}
	}
	if got, _ := Sheet([]byte("\xef\xbb\xbfa\x00{B\xff:c}")); showRules(got) != "a\uFFFD{b\uFFFD=c;}" {
		t.Error(showRules(got))
	}
}
