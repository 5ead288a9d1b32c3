package prop

import (
	"fmt"
	"math"
	"reflect"
	"slices"
	"strings"
	"testing"

	"jalousie/api"
	"jalousie/calc"
	"jalousie/rat"
	"jalousie/rule"
	"jalousie/spell"
	"jalousie/tok"
)

func values(s string) []api.Value { return rule.Values(tok.Bytes([]byte(s))) }

func tokens(s string) []api.Token { return tok.Bytes([]byte(s)) }

func frac(n, d int64) api.Rat { return api.Rat{Num: n, Den: d} }

// sized: an expression of so much of the unit u, told as a declared value.
func sized(r api.Rat, u int) api.Val {
	return api.Val{Kind: api.VExpr, Expr: api.Expr{Kind: api.ENum, Num: r, Unit: u}}
}

func worded(s string) api.Val { return api.Val{Kind: api.VWord, Word: s} }

func wide(s string) api.Val { return api.Val{Kind: api.VWide, Word: s} }

// spellOf: the text of values, for what is said of them; their start alone, if they are raw.
func spellOf(l []api.Value) string {
	if !rule.May(l) {
		return fmt.Sprintf("%.200v", fmt.Sprint(l))
	}
	s, why := spell.Tokens(rule.Flat(l))
	if why != api.OK {
		return fmt.Sprint(rule.Flat(l))
	}
	return s
}

// valOf: a declared value in short, for what is said of it.
func valOf(v api.Val) string {
	s, _ := spell.Tokens(v.Tokens)
	e, _ := calc.Text(v.Expr)
	return fmt.Sprintf("{%d %s %q %q}", v.Kind, e, v.Word, s)
}

// told: Parse and Supports answer this.
func told(t *testing.T, name string, l []api.Value, want api.Val) {
	t.Helper()
	got, why := Parse(name, l)
	// nil and empty lists are one.
	if len(got.Tokens) == 0 {
		got.Tokens = nil
	}
	if why != api.OK || !reflect.DeepEqual(got, want) {
		t.Errorf("%s: %s: %s %d, not %s", name, spellOf(l), valOf(got), why, valOf(want))
	}
	if !Supports(name, l) {
		t.Errorf("%s: %s: is not supported", name, spellOf(l))
	}
}

// reads: as told, of a text.
func reads(t *testing.T, name, s string, want api.Val) {
	t.Helper()
	told(t, name, values(s), want)
}

// refused: by this error, with nothing beside it.
func refused(t *testing.T, name string, l []api.Value, want api.Errno) {
	t.Helper()
	if got, why := Parse(name, l); why != want || !reflect.DeepEqual(got, api.Val{}) {
		t.Errorf("%s: %s: %s %d, not %d", name, spellOf(l), valOf(got), why, want)
	}
	if Supports(name, l) {
		t.Errorf("%s: %s: is supported", name, spellOf(l))
	}
}

// barred: as refused, of texts, by ErrSyntax.
func barred(t *testing.T, name string, texts ...string) {
	t.Helper()
	for _, s := range texts {
		refused(t, name, values(s), api.ErrSyntax)
	}
}

// keeps: the text has uses that may be, or is a custom property's: its tokens are told, and they are those of the text want.
func keeps(t *testing.T, name, s, want string) {
	t.Helper()
	v := api.Val{Kind: api.VVars, Tokens: tokens(want)}
	if len(v.Tokens) == 0 {
		v.Tokens = nil
	}
	reads(t, name, s, v)
}

// calculated: what calc.Parse tells is told.
func calculated(t *testing.T, name, s string) {
	t.Helper()
	e, why := calc.Parse(values(s))
	if why != api.OK {
		t.Fatalf("%q: %d", s, why)
	}
	reads(t, name, s, api.Val{Kind: api.VExpr, Expr: e})
}

// The chapter's table of properties, once more.
func facts() []api.Prop {
	words := func(s string) []string { return strings.Fields(s) }
	ident := func(s string) api.Comp { return api.Comp{Kind: api.CWord, Word: s} }
	length := func(n int64) api.Comp { return api.Comp{Kind: api.CLength, Num: frac(n, 1)} }
	plain := func(n, d int64) api.Comp { return api.Comp{Kind: api.CNumber, Num: frac(n, d)} }
	return []api.Prop{
		{Name: "color", Kind: api.PWord, Down: true, Low: false, Words: words("black white red green blue transparent"), Initial: ident("black")},
		{Name: "display", Kind: api.PWord, Down: false, Low: false, Words: words("inline block none flex grid"), Initial: ident("inline")},
		{Name: "font-size", Kind: api.PLength, Down: true, Low: false, Initial: length(16)},
		{Name: "gap", Kind: api.PLength, Down: false, Low: false, Initial: length(0)},
		{Name: "height", Kind: api.PLength, Down: false, Low: false, Words: words("auto"), Initial: ident("auto")},
		{Name: "left", Kind: api.PLength, Down: false, Low: true, Words: words("auto"), Initial: ident("auto")},
		{Name: "line-height", Kind: api.PNumber, Down: true, Low: false, Initial: plain(6, 5)},
		{Name: "margin", Kind: api.PLength, Down: false, Low: true, Words: words("auto"), Initial: length(0)},
		{Name: "opacity", Kind: api.PNumber, Down: false, Low: false, Initial: plain(1, 1)},
		{Name: "order", Kind: api.PNumber, Down: false, Low: true, Initial: plain(0, 1)},
		{Name: "padding", Kind: api.PLength, Down: false, Low: false, Initial: length(0)},
		{Name: "text-align", Kind: api.PWord, Down: true, Low: false, Words: words("start end center"), Initial: ident("start")},
		{Name: "visibility", Kind: api.PWord, Down: true, Low: false, Words: words("visible hidden collapse"), Initial: ident("visible")},
		{Name: "width", Kind: api.PLength, Down: false, Low: false, Words: words("auto"), Initial: ident("auto")},
	}
}

// propsOf: the properties of this kind.
func propsOf(kind int) (l []api.Prop) {
	for _, p := range facts() {
		if p.Kind == kind {
			l = append(l, p)
		}
	}
	return l
}

// named: every property's name, and a custom property's.
func named() []string { return append(Names(), "--a") }

// The chapter's table of examples.
func TestExamples(t *testing.T) {
	calculated(t, "width", "calc(1px + 1em)")
	reads(t, "width", "AUTO", worded("auto"))
	reads(t, "width", "0", sized(frac(0, 1), api.UPx))
	barred(t, "width", "1")
	barred(t, "width", "-1px")
	reads(t, "margin", "-1px", sized(frac(-1, 1), api.UPx))
	barred(t, "width", "calc(-1px)")
	keeps(t, "width", "var(--a, 1px) 2", "var(--a, 1px) 2")
	barred(t, "width", "var(a)", "var()")
	keeps(t, "--a", "", "")
	reads(t, "--a", "INHERIT", wide("inherit"))
	barred(t, "--a", "]")
	refused(t, "--", values("x"), api.ErrName)
	barred(t, "opacity", "1/2")
	reads(t, "opacity", ".5", sized(frac(1, 2), api.UNone))
	e := api.Expr{Kind: api.EProd, Kids: []api.Expr{{Kind: api.ENum, Num: frac(1, 1)}, {Kind: api.EInv, Kids: []api.Expr{{Kind: api.ENum, Num: frac(2, 1)}}}}}
	reads(t, "opacity", "calc(1 / 2)", api.Val{Kind: api.VExpr, Expr: e})
	barred(t, "color", "red blue")
	refused(t, "colour", values("red"), api.ErrName)
}

// P14.1: each of the fourteen, with all its columns.
func TestProperties(t *testing.T) {
	var names []string
	for i, want := range facts() {
		names = append(names, want.Name)
		got, ok := Spec(want.Name)
		if !ok || !reflect.DeepEqual(got, want) {
			t.Errorf("%+v %v, not %+v", got, ok, want)
		}
		if at := Place(want.Name); at != i {
			t.Error(want.Name, at)
		}
		if Custom(want.Name) {
			t.Error(want.Name)
		}
	}
	got := Names()
	if len(got) != 14 || !slices.Equal(got, names) || !slices.IsSorted(got) {
		t.Error(got)
	}
}

// P14.1: names that are none: other ones, in capitals, nothing, custom ones, with something beside them.
func TestNoProperties(t *testing.T) {
	l := []string{"", " ", "-", "--", "---", "--a", "--width", "x", "colour", "background", "font", "line", "text", "auto", "red", "inherit", "calc", "var", "a\xff", "\x00", "é", strings.Repeat("width", 20000)}
	for _, name := range Names() {
		capitals := strings.ToUpper(name)
		first := capitals[:1] + name[1:]
		last := name[:len(name)-1] + capitals[len(name)-1:]
		l = append(l, capitals, first, last, name+"s", "-"+name, name+" ", " "+name, name+"\x00", name[1:], name[:len(name)-1], name+name)
	}
	for _, name := range l {
		if p, ok := Spec(name); ok || !reflect.DeepEqual(p, api.Prop{}) {
			t.Errorf("%q: %+v %v", name, p, ok)
		}
		if at := Place(name); at != -1 {
			t.Errorf("%q: %d", name, at)
		}
		if Custom(name) {
			continue
		}
		for _, s := range []string{"", "inherit", "1px", "1", "red", "var(--a)", "]", "var()"} {
			refused(t, name, values(s), api.ErrName)
		}
	}
}

// P14.1: names of custom properties: -- alone, and with one character more.
func TestCustom(t *testing.T) {
	for _, s := range []string{"", "-", "--", "a", "a--", "-a", "a--b", "-a-", " --a", "—a", "––a", "−−a", "\\--a", "\x00--", "- -a"} {
		if Custom(s) {
			t.Errorf("%q", s)
		}
		refused(t, s, values("x"), api.ErrName)
	}
	for _, s := range []string{"--a", "--A", "---", "----", "--0", "-- ", "--é", "--\x00", "--\xff", "--width", "--\n", "--漢", "--" + strings.Repeat("x", 100000)} {
		if !Custom(s) {
			t.Errorf("%q", s)
		}
		keeps(t, s, "x", "x")
		if Place(s) != -1 {
			t.Errorf("%q", s)
		}
	}
}

// within: texts in which s stands at the top, and in blocks and functions, one in the other.
func within(s string) []string {
	l := []string{s, "a " + s, s + " a", "1px " + s}
	for _, f := range []string{"f(%)", "[%]", "(%)", "{%}", "calc(1px + %)", "f([a, {b (%) c}] d)", "var(--a, %)", "f(var(--a, (%)))", "url(x) \"y\" g(%, 1)"} {
		l = append(l, strings.ReplaceAll(f, "%", s), strings.ReplaceAll(f, "%", " "+s+" a"), strings.ReplaceAll(f, "%", "a "+s))
	}
	return append(l, strings.Repeat("[", 58)+s+strings.Repeat("]", 58))
}

// P14.2: uses at every depth, in capitals, those that may not be, too; what only looks like one.
func TestVars(t *testing.T) {
	for _, use := range []string{"var(--a)", "VAR(--a)", "vAr( --a , x )", "var()", "Var(a)", "var(--)", "v\\61r(--a)", "\\56 AR()"} {
		for _, s := range within(use) {
			if !Vars(values(s)) {
				t.Errorf("%q: no use", s)
			}
		}
	}
	for _, s := range []string{"", "a", "var", "--a", "(--a)", "var (--a)", "vars(--a)", "va(--a)", "f(--a)", "\"var(--a)\"", "url(var(--a))", "#var", "@var (--a)", "-var(--a)", "var/**/(--a)", "ⅴar(--a)", "vaſ(--a)", "1var", "f([{(var)}])"} {
		if Vars(values(s)) {
			t.Errorf("%q: a use", s)
		}
	}
	for _, s := range []string{"f(a", "[var", "var", "(a) b"} {
		if l := values(s); Vars(l) || !Vars(append(l, values("var(")...)) {
			t.Errorf("%q", s)
		}
	}
}

// P14.2: values that may not be, by their words: at whatever depth, whatever they stand under.
func TestVarsOfWhatMayNotBe(t *testing.T) {
	use := api.Value{Tok: api.Token{Kind: api.TFunc, Text: "var"}}
	other := api.Value{Tok: api.Token{Kind: api.TIdent, Text: "var"}}
	for _, kind := range []int{-1, 0, 25, math.MaxInt, api.TIdent, api.TSpace, api.TCloseParen} {
		holder := api.Value{Tok: api.Token{Kind: kind, Text: "var"}, Kids: []api.Value{other, use}}
		if !Vars([]api.Value{holder}) {
			t.Error(kind)
		}
		holder.Kids = holder.Kids[:1]
		if Vars([]api.Value{holder}) {
			t.Error(kind)
		}
	}
	for _, deep := range []int{64, 65, 66, 500, 1<<16 - 1} {
		for _, inner := range []api.Value{use, other} {
			l := []api.Value{inner}
			for range deep {
				l = []api.Value{{Tok: api.Token{Kind: api.TOpenParen}, Kids: l}}
			}
			if got := Vars(l); got != (inner.Tok.Kind == api.TFunc) {
				t.Error(deep, got)
			}
		}
	}
}

// P14.3: ErrName comes ahead of ErrArg, and that ahead of ErrSyntax.
func TestErrorsInTurn(t *testing.T) {
	for _, l := range mayNotBe() {
		for _, name := range []string{"", "--", "colour", "WIDTH", "x"} {
			refused(t, name, l, api.ErrName)
		}
		for _, name := range named() {
			refused(t, name, l, api.ErrArg)
			for _, s := range []string{"]", ";", "var()", "(\"\n)", "url(()", "red red", "inherit"} {
				refused(t, name, append(values(s), l...), api.ErrArg)
				refused(t, name, append(slices.Clip(l), values(s)...), api.ErrArg)
			}
		}
	}
	for _, name := range []string{"", "--", "Width"} {
		for _, s := range []string{"]", ";", "var()", "(\"\n)", "url(()"} {
			refused(t, name, values(s), api.ErrName)
		}
	}
}

// mayNotBe: lists of values that may not be.
func mayNotBe() (l [][]api.Value) {
	px := api.Value{Tok: api.Token{Kind: api.TDim, Text: "px", Num: frac(1, 1)}}
	for _, kind := range []int{0, -1, 25, 1 << 32, math.MinInt, math.MaxInt} {
		wrong := api.Value{Tok: api.Token{Kind: kind, Text: "auto", Num: frac(1, 1)}}
		l = append(l, []api.Value{wrong}, []api.Value{px, wrong}, []api.Value{{Tok: api.Token{Kind: api.TOpenCurly}, Kids: []api.Value{px, wrong}}})
	}
	for _, kind := range []int{api.TIdent, api.TNumber, api.TDim, api.TSpace, api.TCloseParen, api.TComma} {
		l = append(l, []api.Value{{Tok: api.Token{Kind: kind, Text: "px", Num: frac(0, 1)}, Kids: []api.Value{px}}})
	}
	for _, opener := range []api.Token{{Kind: api.TOpenSquare}, {Kind: api.TOpenParen}, {Kind: api.TOpenCurly}, {Kind: api.TFunc, Text: "f"}} {
		deep := []api.Value{{Tok: opener}}
		for range 64 {
			deep = []api.Value{{Tok: opener, Kids: deep}}
		}
		l = append(l, deep)
	}
	return l
}

// P14.3: bad strings, bad urls and closers that close nothing, at every depth.
func TestBadValues(t *testing.T) {
	for _, bad := range []string{"\"x\n", "'\n", "url(a b)", "url(()"} {
		for _, s := range within(bad) {
			for _, name := range named() {
				barred(t, name, s)
			}
		}
	}
	for _, s := range []string{")", "]", "}", "a ]", "] a", "inherit)", "(a))", "(])", "(})", "[)]", "[}]", "{)}", "{]}", "f(])", "f(a, }) b", "([{)}])", "([{]}])", "([{(})}])", "var(--a))", "var(--a, ])", "var(--a, {)})", "var(])"} {
		for _, name := range named() {
			barred(t, name, s)
		}
	}
	// Each kind as a value of its own, at every depth that may be.
	for _, kind := range []int{api.TBadString, api.TBadUrl, api.TCloseParen, api.TCloseSquare, api.TCloseCurly} {
		l := []api.Value{{Tok: api.Token{Kind: kind}}}
		for deep := range 65 {
			for _, name := range []string{"--a", "width", "color"} {
				refused(t, name, l, api.ErrSyntax)
				refused(t, name, append(values("var(--a)"), l...), api.ErrSyntax)
			}
			opener := []api.Token{{Kind: api.TFunc, Text: "f"}, {Kind: api.TOpenSquare}, {Kind: api.TOpenParen}, {Kind: api.TOpenCurly}}[deep%4]
			l = []api.Value{{Tok: opener, Kids: append(values("a "), l...)}}
		}
	}
}

// P14.3: a semicolon is bad at the top, and nowhere else; all other tokens are bad nowhere.
func TestSemicolon(t *testing.T) {
	for _, s := range []string{";", "a;", ";a", "a;b", " ; ", "inherit;", "var(--a);", "(a);", "1px;"} {
		for _, name := range named() {
			barred(t, name, s)
		}
	}
	for _, s := range []string{"(;)", "[;]", "{;}", "f(;)", "f(a;b)", "{a:b;c:d;}", "[(;;);]", "var(--a,;)", "var(--b, x;y) z", "f(var(--b,{;}))"} {
		keeps(t, "--a", s, s)
	}
	keeps(t, "width", "var(--a,;)", "var(--a,;)")
	keeps(t, "color", "f(;) var(--a)", "f(;) var(--a)")
	barred(t, "width", "(;)", "calc(1px;)")
	all := "a f(b) @c #d #1 \"e\" url(g) url() + - * 1 2% 3px <!-- --> : , [h] (i) {j} ! . / \\\n ~ \x01 \U0001F600"
	keeps(t, "--a", all, all)
	keeps(t, "left", all+" var(--b)", all+" var(--b)")
}

// P14.3: uses that may be, and that may not, at the top and deeper, of properties and custom ones.
func TestUses(t *testing.T) {
	good := []string{"var(--a)", "VAR(--a)", "Var(--A)", "var( --a )", "var(  --a/**/ /**/ )", "var(--a,)", "var(--a ,)", "var(--a, )", "var(--a , , ,)", "var(--a,1px)", "var( --a , 1px 2px (b) )", "var(---)", "var(--é)", "var(--a,var(--b))", "var(--a, var( --b , VAR(--c)))", "var(--a, --)", "var(--a, b; c)", "var(/**/--a/**/,/**/)", "var(--\\31 )", "var(\\2d-a)", "var(--a,!x)"}
	wrong := []string{"var()", "VAR()", "var( )", "var(a)", "var(-a)", "var(-)", "var(--)", "var(--,x)", "var(,)", "var(,--a)", "var(, --a)", "var(--a b)", "var(--a --b)", "var(--a;)", "var(--a;,)", "var(--a:b)", "var(--a/b)", "var(--a (b))", "var(--a(b))", "var((--a))", "var([--a])", "var(\"--a\")", "var(#--a)", "var(@--a)", "var(1 --a)", "var(1--a)", "var(--a 1, 2)", "var(--a!)", "var(--a,var())", "var(--a, f(var(b)))", "var(--a, var(--b c))", "var(--a, var(--b, var(--)))", "var(var(--a))", "var(var(--a),1)", "var(url(--a))"}
	for _, name := range named() {
		for _, use := range good {
			for _, s := range within(use) {
				keeps(t, name, s, s)
			}
			keeps(t, name, " "+use+" ", use)
			keeps(t, name, use+use, use+use)
		}
		for _, use := range wrong {
			barred(t, name, within(use)...)
			barred(t, name, use+"var(--a)", "var(--a)"+use, "var(--b)("+use+")")
		}
	}
}

// P14.3: what is no use hinders nobody: a word var, another function, a text of it.
func TestNoUses(t *testing.T) {
	for _, s := range []string{"var", "var (a)", "vars()", "f(a)", "\"var()\"", "url(var)", "#var", "(--a)"} {
		keeps(t, "--a", s, s)
		for _, name := range Names() {
			barred(t, name, s)
		}
	}
}

// P14.3: tokens of values that end with the text, or with white space.
func TestTokens(t *testing.T) {
	for _, name := range []string{"--a", "width", "color"} {
		keeps(t, name, " \n var(--a", "var(--a)")
		keeps(t, name, "f([{var(--a,b ", "f([{var(--a,b )}])")
		keeps(t, name, "/**/ /**/ var(--a) /**/ ( x ) /**/ ", "var(--a) /**/ ( x )")
		keeps(t, name, "A VAR(--A) 1E1PX", "A VAR(--A) 1E1PX")
	}
	keeps(t, "--x", " f(a ", "f(a )")
	keeps(t, "--x", "  ", "")
	keeps(t, "--x", "/* */ \n /* */", "")
	keeps(t, "--x", "( )", "( )")
	// A closer that is told has no field but its Kind; raw tokens are told as they are.
	raw := []api.Value{{Tok: api.Token{Kind: api.TOpenSquare, Text: "x", Num: frac(2, 4), Int: true, Id: true}, Kids: []api.Value{{Tok: api.Token{Kind: api.TIdent}}}}}
	told(t, "--x", raw, api.Val{Kind: api.VVars, Tokens: []api.Token{raw[0].Tok, {Kind: api.TIdent}, {Kind: api.TCloseSquare}}})
}

// P14.3: inherit, initial and unset, of properties and custom ones.
func TestWide(t *testing.T) {
	for _, name := range append(named(), "--inherit") {
		for _, word := range []string{"inherit", "initial", "unset"} {
			capitals := strings.ToUpper(word)
			mixed := capitals[:2] + word[2:]
			for _, s := range []string{word, capitals, mixed, " " + word, word + " ", "\n /**/ " + capitals + "\t/**/\f"} {
				reads(t, name, s, wide(word))
			}
			beside := []string{word + " " + word, word + "/**/" + word, word + " 1px", "1px " + word, word + ",", word + " ()", "(" + word + ")", "f(" + word + ")", "\"" + word + "\"", "#" + word, word + "s", "x" + word, "-" + word, word[:3], word + "()", "@" + word, word + "!", "1" + word}
			for _, s := range beside {
				if name[0] == '-' {
					keeps(t, name, s, s)
					continue
				}
				barred(t, name, s)
			}
			s := word + " var(--a)"
			keeps(t, name, s, s)
		}
		reads(t, name, "\\49 nherit", wide("inherit"))
		for _, s := range []string{"ınherit", "inherİt", "ſet", "unſet", "revert", "default", "auto inherit"} {
			if name[0] != '-' {
				barred(t, name, s)
			}
		}
	}
}

// P14.3: a property asks for something; a custom one doesn't.
func TestNothing(t *testing.T) {
	for _, l := range [][]api.Value{nil, {}, values(" "), values("/**/ /**/ "), make([]api.Value, 0, 3)} {
		for _, name := range Names() {
			refused(t, name, l, api.ErrSyntax)
		}
		told(t, "--a", l, api.Val{Kind: api.VVars})
	}
}

// P14.3: each word of each property, in capitals too, with white space, and with more beside it.
func TestWords(t *testing.T) {
	for _, p := range facts() {
		for _, word := range p.Words {
			capitals := strings.ToUpper(word)
			for _, s := range []string{word, capitals, word[:1] + capitals[1:], capitals[:1] + word[1:], " " + word, "\t" + capitals + " /**/ ", "/**/" + word} {
				reads(t, p.Name, s, worded(word))
			}
			barred(t, p.Name, word+" "+word, word+"/**/"+word, word+" 1px", "1px "+word, word+" 0", word+"()", "("+word+")", "calc("+word+")", "\""+word+"\"", "#"+word, "@"+word, word+"s", "x"+word, "-"+word, word[1:], word+",", word+"!", "1"+word, "1 "+word)
			keeps(t, "--a", capitals, capitals)
			keeps(t, p.Name, word+" var(--a)", word+" var(--a)")
		}
	}
	barred(t, "text-align", "ſtart")
	barred(t, "color", "blac\u212a", "re\u0501")
	barred(t, "visibility", "vısıble")
}

// P14.5: a word of one property is not one of another, unless the table has it there.
func TestWordsOfOthers(t *testing.T) {
	words := []string{"", "medium", "normal", "both", "color", "width", "true"}
	for _, p := range facts() {
		words = append(words, p.Words...)
	}
	taken, left := 0, 0
	for _, p := range facts() {
		for _, word := range words {
			if slices.Contains(p.Words, word) {
				reads(t, p.Name, word, worded(word))
				taken++
				continue
			}
			refused(t, p.Name, []api.Value{{Tok: api.Token{Kind: api.TIdent, Text: word}}}, api.ErrSyntax)
			left++
		}
	}
	// auto stands four times among the words, and is one of four properties; each of the others is one's.
	if taken != 4*4+17 || left != 14*len(words)-taken {
		t.Error(taken, left)
	}
}

// P14.3: 0 without a unit is a length, and a number; in an expression it is a number alone.
func TestNought(t *testing.T) {
	for _, p := range append(propsOf(api.PLength), propsOf(api.PNumber)...) {
		unit := api.UNone
		if p.Kind == api.PLength {
			unit = api.UPx
		}
		for _, s := range []string{"0", "+0", "-0", "0.0", ".00", "0e5", "-0.0E-3", "000", " 0 ", "/**/0/**/", "0e999999999999999999999"} {
			reads(t, p.Name, s, sized(frac(0, 1), unit))
		}
		barred(t, p.Name, "0 0", "0/**/0", "(0)", "[0]", "0%", "0,", "0s", "0 auto", "0!")
	}
	for _, p := range propsOf(api.PLength) {
		for unit, s := range []string{"", "0px", "0em", "-0rem", "0vw", "0vh", "0cqw", "0cqh"} {
			if s != "" {
				reads(t, p.Name, s, sized(frac(0, 1), unit))
			}
		}
		barred(t, p.Name, "calc(0)", "calc((0))", "min(0)", "max(0, 0)", "calc(0 + 1px)", "calc(0 + 0)", "clamp(0, 0, 0)")
		calculated(t, p.Name, "calc(0px)")
		calculated(t, p.Name, "calc(0 * 1px)")
		for _, r := range []api.Rat{{}, {Num: 0, Den: 2}, {Num: 0, Den: -1}, {Num: 1, Den: 0}, {Num: 1, Den: 1 << 62}, {Num: math.MinInt64, Den: 1}} {
			refused(t, p.Name, []api.Value{{Tok: api.Token{Kind: api.TNumber, Num: r}}}, api.ErrSyntax)
		}
		told(t, p.Name, []api.Value{{Tok: api.Token{Kind: api.TNumber, Num: frac(0, 1), Text: "x", Id: true}}}, sized(frac(0, 1), api.UPx))
		refused(t, p.Name, []api.Value{{Tok: api.Token{Kind: api.TPercent, Num: frac(0, 1)}}}, api.ErrSyntax)
	}
	for _, p := range propsOf(api.PNumber) {
		reads(t, p.Name, "calc(0)", sized(frac(0, 1), api.UNone))
		calculated(t, p.Name, "max(0, 0)")
		barred(t, p.Name, "0px", "0em", "calc(0px)", "calc(0 * 1px)")
	}
	for _, p := range propsOf(api.PWord) {
		barred(t, p.Name, "0", "0px", "calc(0)")
	}
}

var lengths = []string{"1px", "2.5EM", "3rem", "4vw", "5vh", "6cqw", "7cqh", "+1px", "1e3px", "1e99px", "calc(1px)", "CALC( ( 1em ) )", "calc(1px + 2em * 3 - (4px))", "min(1px, 2vw / 4)", "max(1px)", "clamp(1px, 2em, 3rem)", "calc(2 * 3 * 1px / 4)", "min(-1px)", "max(-1px, -2px)", "calc(-1 * 1px)", "calc(-1px - 1px)", "calc(1px / 0)", "clamp(-3px, -2px, -1px)"}

var numbers = []string{"1", "2.5", "+3", "1e2", "1e99", ".125", "calc(1)", "calc((2))", "calc(1 + 2 * 3 - (4))", "min(1, 2 / 4)", "max(1)", "clamp(1, 2, 3)", "min(-1)", "max(-1, -2)", "calc(-1 * 1)", "calc(1 - 2)", "calc(1 / 0)", "calc(0 - 1)"}

// neither: what has no kind, or is no expression for calc.Parse.
var neither = []string{"calc(1 + 1px)", "calc(1px * 2px)", "calc(1 / 2px)", "min(1, 1px)", "clamp(1px, 2, 3px)", "max(1px, 2px * 3px)", "calc(1px+2px)", "calc(1px +2px)", "calc()", "min()", "min(1px,)", "max(,)", "clamp(1px, 2px)", "clamp(1, 2)", "1s", "1%", "1x", "(1px)", "(1)", "[1px]", "1 1", "1px 2px", "1px,2px", "1/2", "1px/2", "1 + 1", "- 1", "-(1)", "calc (1px)", "calc(1px", "sin(1)", "calc(auto)", "calc(1px auto)", "\"1px\"", "#1", "url(1px)", "!", "x", "1px!important", "calc(1px) calc(1px)", "calc(1px;)", "calc(1px, 2px)", "calc(1px) 0"}

// P14.3: lengths where lengths are asked, numbers where numbers are, and the other way round.
func TestExpressions(t *testing.T) {
	for _, p := range facts() {
		for _, s := range lengths {
			if p.Kind != api.PLength {
				barred(t, p.Name, s)
				continue
			}
			calculated(t, p.Name, s)
			calculated(t, p.Name, " "+s+"/**/ ")
			barred(t, p.Name, s+" "+s, s+" auto", "("+s+")", s+",")
		}
		for _, s := range numbers {
			if p.Kind != api.PNumber {
				barred(t, p.Name, s)
				continue
			}
			calculated(t, p.Name, s)
			calculated(t, p.Name, "\n/**/"+s+" ")
			barred(t, p.Name, s+" "+s, "("+s+")", s+",", s+" 0")
		}
		for _, s := range neither {
			// Of this one the closer lacks alone.
			if s == "calc(1px" && p.Kind == api.PLength {
				reads(t, p.Name, s, sized(frac(1, 1), api.UPx))
				continue
			}
			barred(t, p.Name, s)
		}
	}
}

// P14.3: what is below 0 as it is written, bare and within calc; P14.6: so is none that is told, where the table says no.
func TestBelow(t *testing.T) {
	for _, p := range append(propsOf(api.PLength), propsOf(api.PNumber)...) {
		units := []string{""}
		if p.Kind == api.PLength {
			units = []string{"px", "em", "REM", "vw", "vh", "cqw", "cqh"}
		}
		for _, unit := range units {
			for _, n := range []string{"-1", "-0.001", "-1e9", "-999999999999999999", "-1e-9"} {
				for _, s := range []string{n + unit, "calc(" + n + unit + ")", "calc( ( (" + n + unit + ") ) )", "calc(calc(" + n + unit + "))", "CALC(" + n + unit} {
					if !p.Low {
						barred(t, p.Name, s)
						continue
					}
					u := calc.Unit(unit)
					r, _, _ := rat.Decimal(n)
					reads(t, p.Name, s, sized(r, u))
				}
				// No number alone any more.
				calculated(t, p.Name, "calc("+n+unit+" + 0"+unit+")")
				calculated(t, p.Name, "min("+n+unit+")")
				calculated(t, p.Name, "calc("+n+" * 1"+unit+")")
			}
			// Over is not below 0.
			reads(t, p.Name, "-1e99"+unit, sized(api.Rat{}, calc.Unit(unit)))
			reads(t, p.Name, "calc(-1e99"+unit+")", sized(api.Rat{}, calc.Unit(unit)))
		}
		kind, text := api.TNumber, ""
		if p.Kind == api.PLength {
			kind, text = api.TDim, "px"
		}
		for _, r := range []api.Rat{{Num: math.MinInt64, Den: 1}, {Num: -1, Den: 0}, {Num: -2, Den: 4}, {Num: -1, Den: -1}, {Num: 1, Den: -1}} {
			told(t, p.Name, []api.Value{{Tok: api.Token{Kind: kind, Text: text, Num: r}}}, sized(api.Rat{}, calc.Unit(text)))
		}
		least := []api.Value{{Tok: api.Token{Kind: kind, Text: text, Num: frac(-math.MaxInt64, 1)}}}
		if p.Low {
			told(t, p.Name, least, sized(frac(-math.MaxInt64, 1), calc.Unit(text)))
			continue
		}
		refused(t, p.Name, least, api.ErrSyntax)
	}
}

// P14.3: a value as deep as may be, and one deeper.
func TestDeep(t *testing.T) {
	deep := func(n int) string { return "calc(" + strings.Repeat("(", n-1) + "1px" + strings.Repeat(")", n) }
	reads(t, "width", deep(64), sized(frac(1, 1), api.UPx))
	refused(t, "width", values(deep(65)), api.ErrArg)
	boxes := func(n int, s string) string { return strings.Repeat("[", n) + s + strings.Repeat("]", n) }
	keeps(t, "--a", boxes(64, "x"), boxes(64, "x"))
	refused(t, "--a", values(boxes(65, "x")), api.ErrArg)
	keeps(t, "color", boxes(63, "var(--a)"), boxes(63, "var(--a)"))
	refused(t, "color", values(boxes(64, "var(--a)")), api.ErrArg)
}

// P14.5: every property's initial value, written down, is parsed as such.
func TestInitials(t *testing.T) {
	for _, name := range Names() {
		p, _ := Spec(name)
		r := p.Initial.Num
		written, e := rat.Plain(r, r.Den == 1)
		switch p.Initial.Kind {
		case api.CWord:
			reads(t, name, p.Initial.Word, worded(p.Initial.Word))
		case api.CLength:
			reads(t, name, written+"px", sized(r, api.UPx))
		case api.CNumber:
			reads(t, name, written, sized(r, api.UNone))
		}
		if p.Initial.Kind != api.CWord && e != api.OK || p.Initial.Kind < api.CLength || p.Initial.Kind > api.CWord {
			t.Error(name, e, p.Initial)
		}
	}
}
