package spell

import (
	"math"
	"slices"
	"strings"
	"testing"

	"jalousie/api"
	"jalousie/tok"
)

func num(n, d int64) api.Rat { return api.Rat{Num: n, Den: d} }

func ident(s string) api.Token  { return api.Token{Kind: api.TIdent, Text: s} }
func fn(s string) api.Token     { return api.Token{Kind: api.TFunc, Text: s} }
func at(s string) api.Token     { return api.Token{Kind: api.TAt, Text: s} }
func hash(s string) api.Token   { return api.Token{Kind: api.THash, Text: s} }
func hashId(s string) api.Token { return api.Token{Kind: api.THash, Text: s, Id: true} }
func str(s string) api.Token    { return api.Token{Kind: api.TString, Text: s} }
func url(s string) api.Token    { return api.Token{Kind: api.TUrl, Text: s} }
func delim(s string) api.Token  { return api.Token{Kind: api.TDelim, Text: s} }

func number(kind int, r api.Rat, whole bool) api.Token {
	return api.Token{Kind: kind, Num: r, Int: whole}
}

// dim: one of the unit s.
func dim(s string) api.Token {
	return api.Token{Kind: api.TDim, Text: s, Num: num(1, 1), Int: true}
}

var (
	space = api.Token{Kind: api.TSpace}
	badS  = api.Token{Kind: api.TBadString}
	badU  = api.Token{Kind: api.TBadUrl}
	paren = api.Token{Kind: api.TOpenParen}
	one   = number(api.TNumber, num(1, 1), true)
)

// written: tokens that may be, and their texts.
var written = []struct {
	one  api.Token
	want string
}{
	// the chapter's examples
	{ident("1a"), `\31 a`}, {ident("-"), `\-`}, {ident("a b"), `a\ b`},
	{dim("e3"), `1\65 3`}, {api.Token{Kind: api.TDim, Text: "em", Num: num(3, 2)}, "1.5em"},
	{hash("1a"), "#1a"}, {hashId("-x"), "#-x"}, {str(`a"`), `"a\""`}, {url("a b"), `url(a\20 b)`},

	{ident("a"), "a"}, {ident("0"), `\30 `}, {ident("9z"), `\39 z`}, {ident("12"), `\31 2`}, {ident("-1"), `-\31 `}, {ident("-12"), `-\31 2`}, {ident("-a1"), "-a1"},
	{ident("--"), "--"}, {ident("--1"), "--1"}, {ident("a-1"), "a-1"}, {ident("a1"), "a1"}, {ident("_1"), "_1"}, {ident("é1"), "é1"}, {ident("-é"), "-é"}, {ident("-_"), "-_"}, {ident("- "), `-\ `}, {ident(" "), `\ `},
	{ident("\x01"), `\1 `}, {ident("a\x1fb"), `a\1f b`}, {ident("\n"), `\a `}, {ident("\t"), `\9 `}, {ident("\r\f"), `\d \c `}, {ident("\x7f"), `\7f `}, {ident("\u0080"), "\u0080"},
	{ident("\uFEFF"), `\feff `}, {ident("a\uFEFFb"), `a\feff b`}, {ident("\uFEFE\uFFFD\uFFFF"), "\uFEFE\uFFFD\uFFFF"}, {ident("😀"), "😀"}, {ident("\U0010FFFF"), "\U0010FFFF"},
	{ident("a.b#c"), `a\.b\#c`}, {ident(`\`), `\\`}, {ident("(){}[]"), `\(\)\{\}\[\]`}, {ident(`"'`), `\"\'`}, {ident("@:;,!"), `\@\:\;\,\!`}, {ident("url"), "url"}, {ident("-\x011"), `-\1 1`}, {ident("~^`"), "\\~\\^\\`"},
	{fn("f"), "f("}, {fn("-"), `\-(`}, {fn("1"), `\31 (`}, {fn("url"), "url("}, {fn("URL"), "URL("}, {fn("a b"), `a\ b(`}, {fn("\uFEFF"), `\feff (`},
	{at("x"), "@x"}, {at("-"), `@\-`}, {at("1x"), `@\31 x`}, {at("-1"), `@-\31 `}, {at("--"), "@--"}, {at("é "), `@é\ `},
	{hashId("a"), "#a"}, {hashId("1a"), `#\31 a`}, {hashId("-"), `#\-`}, {hashId("-1"), `#-\31 `}, {hashId("--"), "#--"}, {hashId("."), `#\.`}, {hashId("\uFEFF"), `#\feff `},
	{hash("1"), "#1"}, {hash("0 x"), `#0\ x`}, {hash("-"), "#-"}, {hash("-1"), "#-1"}, {hash("-0é\n"), `#-0é\a `}, {hash("12-"), "#12-"}, {hash("1\uFEFF"), `#1\feff `}, {hash("9\\"), `#9\\`},
	{str(""), `""`}, {str("a b"), `"a b"`}, {str("'"), `"'"`}, {str(`\`), `"\\"`}, {str("a\n\\"), `"a\a \\"`}, {str("\x01\x1f\x7f"), `"\1 \1f \7f "`}, {str("\uFEFFa"), `"\feff a"`}, {str("é😀(;"), `"é😀(;"`}, {str("\r\n"), `"\d \a "`}, {str("1"), `"1"`}, {str("\u0080 \u00A0"), "\"\u0080 \u00A0\""},
	{url(""), "url()"}, {url("a"), "url(a)"}, {url(`"'()\`), `url(\"\'\(\)\\)`}, {url(" a "), `url(\20 a\20 )`}, {url("\t\n\x01\x7f"), `url(\9 \a \1 \7f )`}, {url("\uFEFF"), `url(\feff )`}, {url("a/*b*/;#1"), "url(a/*b*/;#1)"}, {url("é\u00A0"), "url(é\u00A0)"}, {url("[]{}!"), "url([]{}!)"}, {url("1"), "url(1)"},
	{badS, "\"\n"}, {badU, "url(()"}, {delim(`\`), "\\\n"}, {delim("#"), "#"}, {delim("\x01"), "\x01"}, {delim("\x7f"), "\x7f"}, {delim("!"), "!"},
	{one, "1"}, {number(api.TNumber, num(5, 1), false), "5.0"}, {number(api.TNumber, num(-1, 8), false), "-0.125"}, {number(api.TNumber, num(0, 1), true), "0"}, {number(api.TNumber, num(0, 0), false), "1e99"}, {number(api.TNumber, num(0, 0), true), "99999999999999999999"},
	{number(api.TNumber, num(999999999999999999, 1), true), "999999999999999999"}, {number(api.TNumber, num(9e18, 1), true), "9000000000000000000"}, {number(api.TNumber, num(1, 1e18), false), "0.000000000000000001"},
	{number(api.TPercent, num(5, 1), true), "5%"}, {number(api.TPercent, num(1, 2), false), "0.5%"}, {number(api.TPercent, num(0, 0), false), "1e99%"}, {number(api.TPercent, num(0, 0), true), "99999999999999999999%"},
	{dim("e"), "1e"}, {dim("E"), "1E"}, {dim("e-"), "1e-"}, {dim("e0"), `1\65 0`}, {dim("e9x y"), `1\65 9x\ y`}, {dim("E3"), `1\45 3`}, {dim("e-3"), `1\65 -3`}, {dim("E-3"), `1\45 -3`}, {dim("e-x"), "1e-x"}, {dim("e--3"), "1e--3"}, {dim("e+3"), `1e\+3`}, {dim("ee3"), "1ee3"}, {dim("ex3"), "1ex3"}, {dim("e.3"), `1e\.3`}, {dim("e\x01"), `1e\1 `}, {dim("e3\uFEFF"), `1\65 3\feff `}, {dim("e\uFEFF3"), `1e\feff 3`}, {dim("-e3"), "1-e3"}, {dim("f3"), "1f3"}, {dim("d3"), "1d3"},
	{dim("1"), `1\31 `}, {dim("-"), `1\-`}, {dim("-1"), `1-\31 `}, {dim("--"), "1--"}, {dim("%"), `1\%`}, {dim(".5"), `1\.5`}, {dim("px"), "1px"},
	{api.Token{Kind: api.TDim, Text: "e3"}, `1e99\65 3`}, {api.Token{Kind: api.TDim, Text: "px"}, "1e99px"}, {api.Token{Kind: api.TDim, Text: "e-3", Int: true}, `99999999999999999999\65 -3`}, {api.Token{Kind: api.TDim, Text: "e", Num: num(-5, 2)}, "-2.5e"},
	{space, " "}, {api.Token{Kind: api.TCdo}, "<!--"}, {api.Token{Kind: api.TCdc}, "-->"}, {api.Token{Kind: api.TColon}, ":"}, {api.Token{Kind: api.TSemi}, ";"}, {api.Token{Kind: api.TComma}, ","}, {api.Token{Kind: api.TOpenSquare}, "["}, {api.Token{Kind: api.TCloseSquare}, "]"}, {paren, "("}, {api.Token{Kind: api.TCloseParen}, ")"}, {api.Token{Kind: api.TOpenCurly}, "{"}, {api.Token{Kind: api.TCloseCurly}, "}"},
}

// barred: tokens that may not be.
var barred = []api.Token{
	// the chapter's examples
	hash("x"), delim("a"), number(api.TNumber, num(1, 3), false), {Kind: 25},

	{}, {Kind: -1}, {Kind: 26}, {Kind: 100}, {Kind: math.MaxInt}, {Kind: math.MinInt}, {Kind: 25, Text: "a"}, {Text: "a"},
	ident(""), fn(""), at(""), hash(""), hashId(""), dim(""),
	ident("\xff"), fn("a\xc3"), at("\x80"), hashId("\xed\xa0\x80"), hash("1\xff"), str("\xc0\x80"), url("\xf5"), dim("\xe2\x82"), ident("a\xff"), delim("\xff"), delim("\x80"),
	ident("a\x00"), fn("\x00"), at("\x00a"), hashId("\x00"), hash("1\x00"), str("\x00"), url("a\x00b"), dim("a\x00"), delim("\x00"),
	hash("a"), hash("-a"), hash("--"), hash("--1"), hash("_"), hash("é"), hash("-é"), hash(" "), hash("."), hash("-."), hash("+1"), hash("\uFEFF1"), hash("\\31"), hash("- 1"),
	delim(""), delim("##"), delim("<!"), delim(" "), delim("\n"), delim("\t"), delim("\f"), delim("\r"), delim("\v\v"), delim("\""), delim("'"), delim("("), delim(")"), delim(","), delim(":"), delim(";"), delim("["), delim("]"), delim("{"), delim("}"), delim("0"), delim("9"), delim("A"), delim("Z"), delim("z"), delim("_"), delim("\u0080"), delim("é"), delim("\uFEFF"), delim("\uFFFD"), delim("😀"), delim("$%"), delim("#$%"),
	number(api.TNumber, num(3, 2), true), number(api.TNumber, num(2, 4), false), number(api.TNumber, num(1, -2), false), number(api.TNumber, num(1, 0), false), number(api.TNumber, num(math.MinInt64, 1), true), number(api.TNumber, num(math.MaxInt64, 1), true), number(api.TNumber, num(1, 7), false), number(api.TNumber, num(1, 1<<62), false),
	number(api.TPercent, num(1, 3), false), number(api.TPercent, num(1, 2), true), number(api.TPercent, num(0, 2), true),
	{Kind: api.TDim, Text: "px", Num: num(1, 3)}, {Kind: api.TDim, Text: "px", Num: num(1, 2), Int: true}, {Kind: api.TDim, Text: "px", Num: num(0, -1)},
}

// P4.1, P4.2
func TestWritten(t *testing.T) {
	for _, x := range written {
		got, e := Token(x.one)
		if got != x.want || e != api.OK {
			t.Errorf("%+v: %q %d, not %q", x.one, got, e, x.want)
		}
		if !May(x.one) {
			t.Errorf("%+v may not be", x.one)
		}
	}
}

// P4.1, P4.2: beside the error there is no text.
func TestBarred(t *testing.T) {
	for _, x := range barred {
		if got, e := Token(x); got != "" || e != api.ErrArg {
			t.Errorf("%+v: %q %d", x, got, e)
		}
		if May(x) {
			t.Errorf("%+v may be", x)
		}
	}
}

// uses: which fields api names for a kind.
func uses(kind int) (text, number, id bool) {
	text = slices.Contains([]int{api.TIdent, api.TFunc, api.TAt, api.THash, api.TString, api.TUrl, api.TDelim, api.TDim}, kind)
	number = slices.Contains([]int{api.TNumber, api.TPercent, api.TDim}, kind)
	return text, number, kind == api.THash
}

// P4.1: a field that a kind does not use must be zero.
func TestUnusedFields(t *testing.T) {
	for _, x := range written {
		text, number, id := uses(x.one.Kind)
		for _, y := range []struct {
			used   bool
			change func(one *api.Token)
		}{
			{text, func(one *api.Token) { one.Text = "1" }},
			{text, func(one *api.Token) { one.Text = "\x00" }},
			{number, func(one *api.Token) { one.Num = num(1, 1) }},
			{number, func(one *api.Token) { one.Num = num(0, 1) }},
			{number, func(one *api.Token) { one.Num = num(1, 0) }},
			{number, func(one *api.Token) { one.Int = true }},
			{id, func(one *api.Token) { one.Id = true }},
		} {
			changed := x.one
			y.change(&changed)
			if !y.used && May(changed) {
				t.Errorf("%+v may be", changed)
			}
		}
	}
}

// P4.1: numbers that are no kind.
func TestKinds(t *testing.T) {
	for kind := -300; kind <= 300; kind++ {
		bare := api.Token{Kind: kind}
		full := api.Token{Kind: kind, Text: "1", Num: num(1, 1), Int: true}
		named := api.Token{Kind: kind, Text: "1"}
		if (kind < 1 || kind > 24) && (May(bare) || May(full) || May(named)) {
			t.Errorf("the kind %d may be", kind)
		}
		if kind >= 1 && kind <= 24 && kind != api.TDelim && !May(bare) && !May(full) && !May(named) {
			t.Errorf("the kind %d may not be", kind)
		}
	}
}

// P4.1, P4.2: each character as a TDelim.
func TestDelims(t *testing.T) {
	const may = "#$%&*+-./<=>?@\\^`|~!\x01\x02\x03\x04\x05\x06\x07\x08\x0b\x0e\x0f\x10\x11\x12\x13\x14\x15\x16\x17\x18\x19\x1a\x1b\x1c\x1d\x1e\x1f\x7f"
	for c := rune(0); c <= 0x300; c++ {
		want := string(c)
		if want == "\\" {
			want = "\\\n"
		}
		got, e := Token(delim(string(c)))
		if strings.ContainsRune(may, c) != (e == api.OK) {
			t.Errorf("%x: %d", c, e)
		}
		if e == api.OK && got != want {
			t.Errorf("%x: %q", c, got)
		}
	}
}

// P4.3: every two kinds, and some that are none.
func TestApart(t *testing.T) {
	first := []int{api.TIdent, api.TAt, api.THash, api.TNumber, api.TDim, api.TDelim}
	second := []int{api.TIdent, api.TFunc, api.TUrl, api.TBadUrl, api.TNumber, api.TPercent, api.TDim, api.TCdc, api.TOpenParen, api.TDelim}
	kinds := []int{math.MinInt, math.MaxInt, -9, -1, 100}
	for kind := 0; kind <= 30; kind++ {
		kinds = append(kinds, kind)
	}
	for _, a := range kinds {
		for _, b := range kinds {
			want := a == 13 && b == 13 || slices.Contains(first, a) && slices.Contains(second, b)
			if got := Apart(api.Token{Kind: a}, api.Token{Kind: b}); got != want {
				t.Errorf("%d and %d: %v", a, b, got)
			}
			if got := Apart(api.Token{Kind: a, Text: "\xff", Id: true}, api.Token{Kind: b, Num: num(2, 4), Int: true}); got != want {
				t.Errorf("%d and %d, which may not be: %v", a, b, got)
			}
		}
	}
}

// P4.4
func TestTokens(t *testing.T) {
	for _, x := range []struct {
		l    []api.Token
		want string
	}{
		{nil, ""},
		{[]api.Token{}, ""},
		{[]api.Token{ident("a"), ident("b")}, "a/**/b"},
		{[]api.Token{one, delim("%")}, "1/**/%"},
		{[]api.Token{space, space, space}, " /**/ /**/ "},
		{[]api.Token{ident("a"), space, ident("b")}, "a b"},
		{[]api.Token{ident("a"), paren}, "a/**/("},
		{[]api.Token{ident("1"), space}, `\31  `},
		{[]api.Token{fn("f"), one, {Kind: api.TCloseParen}}, "f(1)"},
		{[]api.Token{one, badU, one}, "1/**/url(()1"},
		{[]api.Token{delim(`\`), space, badS, space}, "\\\n \"\n "},
		{[]api.Token{delim(`\`), ident("a")}, "\\\n/**/a"},
		{[]api.Token{badS, ident("a")}, "\"\na"},
		{[]api.Token{delim("/"), delim("*"), delim("/")}, "//**/*/**//"},
		{[]api.Token{fn("url"), str("a"), url("a"), url("b")}, `url("a"url(a)url(b)`},
		{[]api.Token{{Kind: api.TColon}, {Kind: api.TColon}, ident("x")}, "::x"},
	} {
		if got, e := Tokens(x.l); got != x.want || e != api.OK {
			t.Errorf("%+v: %q %d, not %q", x.l, got, e, x.want)
		}
	}
}

// P4.4: one that may not be, wherever it stands, bars the whole.
func TestTokensBarred(t *testing.T) {
	for _, bad := range barred {
		for place := range 4 {
			l := slices.Insert([]api.Token{ident("a"), one, space}, place, bad)
			if got, e := Tokens(l); got != "" || e != api.ErrArg {
				t.Errorf("%+v at %d: %q %d", bad, place, got, e)
			}
		}
	}
}

// P4.5
func TestIdent(t *testing.T) {
	for _, x := range written {
		if x.one.Kind != api.TIdent {
			continue
		}
		if got, e := Ident(x.one.Text); got != x.want || e != api.OK {
			t.Errorf("%q: %q %d", x.one.Text, got, e)
		}
	}
	for _, s := range []string{"", "\xff", "\x00", "a\x00", "a\xc3"} {
		if got, e := Ident(s); got != "" || e != api.ErrArg {
			t.Errorf("%q: %q %d", s, got, e)
		}
	}
}

// P4.7, of the tokens above.
func TestWrittenReadAlone(t *testing.T) {
	for _, x := range written {
		alone := !(x.one == badS || x.one == delim(`\`) || x.one.Kind == api.TFunc && strings.EqualFold(x.one.Text, "url"))
		if got := tok.Bytes([]byte(x.want)); alone && !slices.Equal(got, []api.Token{x.one}) {
			t.Errorf("%+v: %q is read as %+v", x.one, x.want, got)
		}
	}
}

// R2: a list is neither changed nor read behind its length.
func TestListStays(t *testing.T) {
	l := []api.Token{ident("a"), ident("b"), {}, ident("c")}
	before := slices.Clone(l)
	if got, e := Tokens(l[:2]); got != "a/**/b" || e != api.OK {
		t.Errorf("%q %d", got, e)
	}
	if !slices.Equal(l, before) {
		t.Errorf("%+v", l)
	}
}

// R3: long texts and lists end.
func TestLong(t *testing.T) {
	text := strings.Repeat("a\uFEFF ", 100000)
	want := strings.Repeat(`a\feff \ `, 100000)
	if got, e := Ident(text); got != want || e != api.OK {
		t.Errorf("%d bytes, %d", len(got), e)
	}
	l := slices.Repeat([]api.Token{ident("a"), delim("+")}, 100000)
	if got, e := Tokens(l); got+"/**/" != strings.Repeat("a/**/+/**/", 100000) || e != api.OK {
		t.Errorf("%d bytes, %d", len(got), e)
	}
}
