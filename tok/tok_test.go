package tok

import (
	"math"
	"slices"
	"strings"
	"testing"

	"jalousie/api"
	"jalousie/utf"
)

var (
	space = api.Token{Kind: api.TSpace}
	colon = api.Token{Kind: api.TColon}
	semi  = api.Token{Kind: api.TSemi}
	comma = api.Token{Kind: api.TComma}
	open  = api.Token{Kind: api.TOpenParen}
	shut  = api.Token{Kind: api.TCloseParen}
	cdo   = api.Token{Kind: api.TCdo}
	cdc   = api.Token{Kind: api.TCdc}
	badS  = api.Token{Kind: api.TBadString}
	badU  = api.Token{Kind: api.TBadUrl}
)

func ident(s string) api.Token  { return api.Token{Kind: api.TIdent, Text: s} }
func fn(s string) api.Token     { return api.Token{Kind: api.TFunc, Text: s} }
func at(s string) api.Token     { return api.Token{Kind: api.TAt, Text: s} }
func str(s string) api.Token    { return api.Token{Kind: api.TString, Text: s} }
func url(s string) api.Token    { return api.Token{Kind: api.TUrl, Text: s} }
func delim(s string) api.Token  { return api.Token{Kind: api.TDelim, Text: s} }
func hash(s string) api.Token   { return api.Token{Kind: api.THash, Text: s} }
func hashId(s string) api.Token { return api.Token{Kind: api.THash, Text: s, Id: true} }

// num: a number that is written with a point or an exponent; whole: one that is not.
func num(n, d int64) api.Token {
	return api.Token{Kind: api.TNumber, Num: api.Rat{Num: n, Den: d}}
}
func whole(n int64) api.Token {
	return api.Token{Kind: api.TNumber, Num: api.Rat{Num: n, Den: 1}, Int: true}
}

func dim(t api.Token, unit string) api.Token {
	t.Kind, t.Text = api.TDim, unit
	return t
}

func percent(t api.Token) api.Token {
	t.Kind = api.TPercent
	return t
}

type example struct {
	text string
	want []api.Token
}

func list(l ...api.Token) []api.Token { return l }

// hold holds Tokens of each text against what is wanted.
func hold(t *testing.T, examples []example) {
	t.Helper()
	for _, x := range examples {
		if got := Tokens([]rune(x.text)); !slices.Equal(got, x.want) {
			t.Errorf("%q:\n got %v\nwant %v", x.text, got, x.want)
		}
	}
}

// P3.1: the chapter's table.
func TestChapterExamples(t *testing.T) {
	hold(t, []example{
		{"a:b", list(ident("a"), colon, ident("b"))},
		{"-1.50em+2", list(dim(num(-3, 2), "em"), whole(2))},
		{"1e3 1e 1e-x", list(num(1000, 1), space, dim(whole(1), "e"), space, dim(whole(1), "e-x"))},
		{"#a #1 #", list(hashId("a"), space, hash("1"), space, delim("#"))},
		{`url( a ) url("a") url(a b)`, list(url("a"), space, fn("url"), str("a"), shut, space, badU)},
		{`"a\62 c" 'x`, list(str("abc"), space, str("x"))},
		{"\"a\nb", list(badS, space, ident("b"))},
		{"<!-- --> -x --y", list(cdo, space, cdc, space, ident("-x"), space, ident("--y"))},
		{"a/* b */c", list(ident("a"), ident("c"))},
		{`\31 0`, list(ident("10"))},
	})
}

// P3.1
func TestRemarks(t *testing.T) {
	hold(t, []example{
		{"", nil}, {"/**/", nil}, {"/*", nil}, {"/* a", nil}, {"/* a *", nil}, {"/*/", nil}, {"/*/ a */b", list(ident("b"))}, {"/***/a", list(ident("a"))}, {"/* * / */a", list(ident("a"))},
		{"/**//**/a", list(ident("a"))}, {"/*a*/*/", list(delim("*"), delim("/"))}, {"a/*", list(ident("a"))}, {"a/* */", list(ident("a"))}, {"/* \" url( */a", list(ident("a"))},
		{"a /**/ b", list(ident("a"), space, space, ident("b"))}, {" /**/", list(space)}, {"/**/ ", list(space)}, {"/* \\*/a", list(ident("a"))}, {"/*\n*/a", list(ident("a"))},
		{"a/**/(", list(ident("a"), open)}, {"1/**/px", list(whole(1), ident("px"))}, {"1/**/%", list(whole(1), delim("%"))}, {"#/**/a", list(delim("#"), ident("a"))}, {"@/**/a", list(delim("@"), ident("a"))},
		{"-/**/-/**/>", list(delim("-"), delim("-"), delim(">"))}, {"1/**/.5", list(whole(1), num(1, 2))}, {"+/**/1", list(delim("+"), whole(1))}, {"<!/**/--", list(delim("<"), delim("!"), ident("--"))},
		{`"/* a */"`, list(str("/* a */"))}, {`'/*'/**/`, list(str("/*"))}, {"url(/*a*/)", list(url("/*a*/"))}, {"url(/* a */)", list(badU)}, {"url/**/(a)", list(ident("url"), open, ident("a"), shut)},
		{`a\/*b*/`, list(ident("a/"), delim("*"), ident("b"), delim("*"), delim("/"))}, {"/", list(delim("/"))}, {"/ *", list(delim("/"), space, delim("*"))}, {"*/", list(delim("*"), delim("/"))}, {"//**/", list(delim("/"))},
	})
}

// P3.1
func TestBlanks(t *testing.T) {
	hold(t, []example{
		{" ", list(space)}, {"\n", list(space)}, {"\t", list(space)}, {" \t\n \n\t", list(space)}, {"a \n b", list(ident("a"), space, ident("b"))}, {"\v", list(delim("\v"))}, {"\u00A0", list(ident("\u00A0"))}, {" \f ", list(space, delim("\f"), space)},
	})
}

// P3.1: each of them alone, and side by side; all other signs.
func TestBracketsAndSigns(t *testing.T) {
	kinds := map[string]int{"(": api.TOpenParen, ")": api.TCloseParen, "[": api.TOpenSquare, "]": api.TCloseSquare, "{": api.TOpenCurly, "}": api.TCloseCurly, ",": api.TComma, ":": api.TColon, ";": api.TSemi}
	for s, kind := range kinds {
		one := api.Token{Kind: kind}
		hold(t, []example{{s, list(one)}, {s + s, list(one, one)}, {"a:" + s + "b", list(ident("a"), colon, one, ident("b"))}})
	}
	for _, c := range "!$%&*./<=>?@^`|~+-#\x00\x01\x08\v\f\r\x0e\x1f\x7f" {
		hold(t, []example{{string(c), list(delim(string(c)))}, {string(c) + ";", list(delim(string(c)), semi)}})
	}
}

// P3.1: escapes in a name.
func TestEscapes(t *testing.T) {
	hold(t, []example{
		{`\1`, list(ident("\x01"))}, {`\41`, list(ident("A"))}, {`\041`, list(ident("A"))}, {`\0041`, list(ident("A"))}, {`\00041`, list(ident("A"))}, {`\000041`, list(ident("A"))}, {`\0000411`, list(ident("A1"))}, {`\000041 1`, list(ident("A1"))},
		{`\41 b`, list(ident("Ab"))}, {"\\41\nb", list(ident("Ab"))}, {"\\41\tb", list(ident("Ab"))}, {`\41  b`, list(ident("A"), space, ident("b"))}, {"\\41\fb", list(ident("A"), delim("\f"), ident("b"))}, {`\41g`, list(ident("Ag"))}, {`\41 `, list(ident("A"))},
		{`\aF`, list(ident("\u00AF"))}, {`\Fa`, list(ident("\u00FA"))}, {`\g`, list(ident("g"))}, {`\G1`, list(ident("G1"))}, {`\_`, list(ident("_"))}, {`\20AC`, list(ident("€"))}, {`\10FFFF`, list(ident("\U0010FFFF"))}, {`\10ffff x`, list(ident("\U0010FFFFx"))},
		{`\0`, list(ident("\uFFFD"))}, {`\000000`, list(ident("\uFFFD"))}, {`\0000001`, list(ident("\uFFFD1"))}, {`\0 1`, list(ident("\uFFFD1"))}, {`\D7FF`, list(ident("\uD7FF"))}, {`\d800`, list(ident("\uFFFD"))}, {`\DBFF z`, list(ident("\uFFFDz"))}, {`\dfff`, list(ident("\uFFFD"))}, {`\E000`, list(ident("\uE000"))},
		{`\110000`, list(ident("\uFFFD"))}, {`\ffffff`, list(ident("\uFFFD"))}, {`\fffffff`, list(ident("\uFFFDf"))}, {`\FFFE`, list(ident("\uFFFE"))}, {`\a`, list(ident("\n"))}, {`\d `, list(ident("\r"))}, {`\c`, list(ident("\f"))},
		{`\`, list(ident("\uFFFD"))}, {`a\`, list(ident("a\uFFFD"))}, {"\\\n", list(delim(`\`), space)}, {"a\\\nb", list(ident("a"), delim(`\`), space, ident("b"))}, {`\\`, list(ident(`\`))}, {`\ a`, list(ident(" a"))}, {`\;\(`, list(ident(";("))}, {`\"`, list(ident(`"`))}, {`\é`, list(ident("é"))}, {"\\\f", list(ident("\f"))}, {"\\\r\n", list(ident("\r"), space)}, {"\\\x00", list(ident("\x00"))},
		{`\-->`, list(ident("--"), delim(">"))}, {`\/**/`, list(ident("/"), delim("*"), delim("*"), delim("/"))}, {`\31px`, list(ident("1px"))}, {`\61(`, list(fn("a"))}, {`a\(b`, list(ident("a(b"))},
	})
}

// P3.1
func TestNames(t *testing.T) {
	hold(t, []example{
		{"a", list(ident("a"))}, {"Z_z-9", list(ident("Z_z-9"))}, {"_", list(ident("_"))}, {"\u0080", list(ident("\u0080"))}, {"é", list(ident("é"))}, {"😀-", list(ident("😀-"))}, {"\U0010FFFF", list(ident("\U0010FFFF"))}, {"a\x7f", list(ident("a"), delim("\x7f"))}, {"a.b", list(ident("a"), delim("."), ident("b"))},
		{"-", list(delim("-"))}, {"-a", list(ident("-a"))}, {"--", list(ident("--"))}, {"--a", list(ident("--a"))}, {"---", list(ident("---"))}, {"--1", list(ident("--1"))}, {"-_", list(ident("-_"))}, {"-é", list(ident("-é"))}, {"- a", list(delim("-"), space, ident("a"))}, {"-(", list(delim("-"), open)}, {"--(", list(fn("--"))},
		{`-\`, list(ident("-\uFFFD"))}, {`-\61`, list(ident("-a"))}, {"-\\\n", list(delim("-"), delim(`\`), space)}, {`--\-`, list(ident("---"))}, {"--\\\n", list(ident("--"), delim(`\`), space)},
		{"-->", list(cdc)}, {"--->", list(ident("---"), delim(">"))}, {"a-->", list(ident("a--"), delim(">"))}, {"->", list(delim("-"), delim(">"))}, {"-- >", list(ident("--"), space, delim(">"))}, {"-->-->", list(cdc, cdc)}, {"-->a", list(cdc, ident("a"))}, {"--", list(ident("--"))},
		{"<!--", list(cdo)}, {"<!---", list(cdo, delim("-"))}, {"<!-->", list(cdo, delim(">"))}, {"<!-", list(delim("<"), delim("!"), delim("-"))}, {"<!", list(delim("<"), delim("!"))}, {"<", list(delim("<"))}, {"<!--a", list(cdo, ident("a"))}, {"<-->", list(delim("<"), cdc)}, {"<! --", list(delim("<"), delim("!"), space, ident("--"))},
		{"a(", list(fn("a"))}, {"a (", list(ident("a"), space, open)}, {"calc(1)", list(fn("calc"), whole(1), shut)}, {"a((", list(fn("a"), open)},
	})
}

// P3.1
func TestHashesAndAts(t *testing.T) {
	hold(t, []example{
		{"#a", list(hashId("a"))}, {"#-a", list(hashId("-a"))}, {"#--", list(hashId("--"))}, {"#-", list(hash("-"))}, {"#-1", list(hash("-1"))}, {"#1", list(hash("1"))}, {"#1a", list(hash("1a"))}, {"#00f", list(hash("00f"))}, {"#é", list(hashId("é"))}, {"#_", list(hashId("_"))}, {"#a(", list(hashId("a"), open)},
		{`#\`, list(hashId("\uFFFD"))}, {`#\31`, list(hashId("1"))}, {`#-\31`, list(hashId("-1"))}, {`#1\31 a`, list(hash("11a"))}, {"#\\\n", list(delim("#"), delim(`\`), space)}, {"#-\\\n", list(hash("-"), delim(`\`), space)}, {"#", list(delim("#"))}, {"##a", list(delim("#"), hashId("a"))}, {"#+1", list(delim("#"), whole(1))}, {"# a", list(delim("#"), space, ident("a"))}, {"#.a", list(delim("#"), delim("."), ident("a"))}, {"#-->", list(hashId("--"), delim(">"))},
		{"@a", list(at("a"))}, {"@MEDIA{", list(at("MEDIA"), api.Token{Kind: api.TOpenCurly})}, {"@-a", list(at("-a"))}, {"@--", list(at("--"))}, {"@-", list(delim("@"), delim("-"))}, {"@1", list(delim("@"), whole(1))}, {"@-1", list(delim("@"), whole(-1))}, {"@é(", list(at("é"), open)}, {`@\`, list(at("\uFFFD"))}, {`@\61 b`, list(at("ab"))}, {"@\\\n", list(delim("@"), delim(`\`), space)}, {"@", list(delim("@"))}, {"@@a", list(delim("@"), at("a"))}, {"@url(a)", list(at("url"), open, ident("a"), shut)}, {`@-\`, list(at("-\uFFFD"))},
	})
}

// P3.1: what is a number, and what only looks like the beginning of one.
func TestNumbers(t *testing.T) {
	hold(t, []example{
		{"0", list(whole(0))}, {"007", list(whole(7))}, {"+1", list(whole(1))}, {"-1", list(whole(-1))}, {"-0", list(whole(0))}, {"1.5", list(num(3, 2))}, {".5", list(num(1, 2))}, {"+.5", list(num(1, 2))}, {"-.5", list(num(-1, 2))}, {"1.0", list(num(1, 1))}, {"0.50", list(num(1, 2))},
		{"1.", list(whole(1), delim("."))}, {"1.a", list(whole(1), delim("."), ident("a"))}, {"1.5.5", list(num(3, 2), num(1, 2))}, {"1..5", list(whole(1), delim("."), num(1, 2))}, {".", list(delim("."))}, {"..5", list(delim("."), num(1, 2))}, {"+", list(delim("+"))}, {"+.", list(delim("+"), delim("."))}, {"+a", list(delim("+"), ident("a"))}, {"++1", list(delim("+"), whole(1))}, {"+-1", list(delim("+"), whole(-1))}, {"-+1", list(delim("-"), whole(1))}, {"-.", list(delim("-"), delim("."))}, {"-.a", list(delim("-"), delim("."), ident("a"))}, {"+ 1", list(delim("+"), space, whole(1))}, {"--1", list(ident("--1"))}, {"1+1", list(whole(1), whole(1))}, {"1-1", list(whole(1), whole(-1))}, {"1 -1", list(whole(1), space, whole(-1))},
		{"1e3", list(num(1000, 1))}, {"1E3", list(num(1000, 1))}, {"1e+3", list(num(1000, 1))}, {"1e-3", list(num(1, 1000))}, {"1E-03", list(num(1, 1000))}, {".5e1", list(num(5, 1))}, {"1.5e1", list(num(15, 1))}, {"-1e2%", list(percent(num(-100, 1)))}, {"1e3e4", list(dim(num(1000, 1), "e4"))}, {"1e3.5", list(num(1000, 1), num(1, 2))}, {"1e3e", list(dim(num(1000, 1), "e"))},
		{"1e", list(dim(whole(1), "e"))}, {"1e+", list(dim(whole(1), "e"), delim("+"))}, {"1e-", list(dim(whole(1), "e-"))}, {"1e+a", list(dim(whole(1), "e"), delim("+"), ident("a"))}, {"1e--1", list(dim(whole(1), "e--1"))}, {"1e.5", list(dim(whole(1), "e"), num(1, 2))}, {"1e+.5", list(dim(whole(1), "e"), num(1, 2))}, {"1 e3", list(whole(1), space, ident("e3"))}, {"1.e3", list(whole(1), delim("."), ident("e3"))}, {`1\65 3`, list(dim(whole(1), "e3"))}, {"1f3", list(dim(whole(1), "f3"))}, {"1e-x5", list(dim(whole(1), "e-x5"))},
		{"1px", list(dim(whole(1), "px"))}, {"1PX", list(dim(whole(1), "PX"))}, {"-1.5em", list(dim(num(-3, 2), "em"))}, {"1-a", list(dim(whole(1), "-a"))}, {"1--", list(dim(whole(1), "--"))}, {"1-->", list(dim(whole(1), "--"), delim(">"))}, {"1-", list(whole(1), delim("-"))}, {"1é", list(dim(whole(1), "é"))}, {`1\`, list(dim(whole(1), "\uFFFD"))}, {`1\31`, list(dim(whole(1), "1"))}, {"1\\\n", list(whole(1), delim(`\`), space)}, {`1-\61`, list(dim(whole(1), "-a"))}, {"1px(", list(dim(whole(1), "px"), open)}, {"1url(a)", list(dim(whole(1), "url"), open, ident("a"), shut)}, {"1_", list(dim(whole(1), "_"))},
		{"50%", list(percent(whole(50)))}, {"+.5%", list(percent(num(1, 2)))}, {"1%%", list(percent(whole(1)), delim("%"))}, {"1 %", list(whole(1), space, delim("%"))}, {"1%a", list(percent(whole(1)), ident("a"))}, {"1a%", list(dim(whole(1), "a"), delim("%"))}, {"%1", list(delim("%"), whole(1))},
		{"٣", list(ident("٣"))}, {"1٣", list(dim(whole(1), "٣"))},
	})
}

// P3.1: over is told as rat.Decimal tells it, with whether the number is whole by its form.
func TestNumbersOver(t *testing.T) {
	over, overWhole := api.Token{Kind: api.TNumber}, api.Token{Kind: api.TNumber, Int: true}
	many := strings.Repeat("1", 50000)
	hold(t, []example{
		{"1e99", list(over)}, {"1e99px", list(dim(over, "px"))}, {"-1e99%", list(percent(over))}, {"1e-99", list(over)}, {"10e-401", list(over)}, {"0e99", list(num(0, 1))}, {"1e99999999999999999999", list(over)}, {"0e99999999999999999999", list(num(0, 1))},
		{"99999999999999999999", list(overWhole)}, {"9223372036854775807", list(overWhole)}, {"-99999999999999999999em", list(dim(overWhole, "em"))}, {"999999999999999999", list(whole(999999999999999999))}, {"1000000000000000000", list(whole(1000000000000000000))}, {"1234567890123456789", list(overWhole)}, {"0.0000000000000000000", list(num(0, 1))},
		{many, list(overWhole)}, {"." + many + "%", list(percent(over))}, {strings.Repeat("0", 50000) + "5x", list(dim(whole(5), "x"))},
	})
}

// P3.1
func TestStrings(t *testing.T) {
	hold(t, []example{
		{`""`, list(str(""))}, {`''`, list(str(""))}, {`"a"`, list(str("a"))}, {`'a'`, list(str("a"))}, {`"a'b"`, list(str("a'b"))}, {`'a"b'`, list(str(`a"b`))}, {`"a""b"`, list(str("a"), str("b"))}, {`"a"b`, list(str("a"), ident("b"))}, {`"é😀"`, list(str("é😀"))}, {"\"a\tb\"", list(str("a\tb"))},
		{`"`, list(str(""))}, {`'`, list(str(""))}, {`"a`, list(str("a"))}, {`"a\`, list(str("a"))}, {`"\`, list(str(""))}, {`'a;b)`, list(str("a;b)"))}, {`"a\\`, list(str(`a\`))},
		{"\"\n", list(badS, space)}, {"\"a\nb\"", list(badS, space, ident("b"), str(""))}, {"'a\n'b'", list(badS, space, str("b"))}, {"\"a\n\n\"", list(badS, space, str(""))}, {"\"a\\q\n", list(badS, space)}, {"\"a\\b\n", list(str("a\v"))}, {"\"a\n;", list(badS, space, semi)},
		{"\"a\\\nb\"", list(str("ab"))}, {"\"\\\n\"", list(str(""))}, {"\"\\\n", list(str(""))}, {"\"\\\n\\\nx", list(str("x"))}, {"\"\\\n\n", list(badS, space)},
		{`"\41"`, list(str("A"))}, {`"\41 b"`, list(str("Ab"))}, {"\"\\41\nb\"", list(str("Ab"))}, {"\"\\41\n\nb", list(badS, space, ident("b"))}, {`"\41  b"`, list(str("A b"))}, {`"\0"`, list(str("\uFFFD"))}, {`"\d800"`, list(str("\uFFFD"))}, {`"\110000"`, list(str("\uFFFD"))}, {`"\0000410"`, list(str("A0"))}, {`"\41`, list(str("A"))},
		{`"\""`, list(str(`"`))}, {`'\''`, list(str("'"))}, {`"\'"`, list(str("'"))}, {`"\q"`, list(str("q"))}, {`"\\"`, list(str(`\`))}, {`"\22"`, list(str(`"`))}, {`"\a"`, list(str("\n"))}, {`"\A b"`, list(str("\nb"))}, {`"\
`, list(str(""))}, {`"url(a)"`, list(str("url(a)"))},
	})
}

// P3.1
func TestUrls(t *testing.T) {
	hold(t, []example{
		{"url()", list(url(""))}, {"url(a)", list(url("a"))}, {"URL(a)", list(url("a"))}, {"uRl(a)", list(url("a"))}, {"url( \n\ta \n\t)", list(url("a"))}, {"url( )", list(url(""))}, {"url(", list(url(""))}, {"url( ", list(url(""))}, {"url(a", list(url("a"))}, {"url(a ", list(url("a"))}, {"url(  a  ", list(url("a"))}, {"url(a)b", list(url("a"), ident("b"))}, {"url(a))", list(url("a"), shut)}, {"url(é#@:;,[]{}!<>-)", list(url("é#@:;,[]{}!<>-"))}, {"url(\u0080)", list(url("\u0080"))},
		{"url", list(ident("url"))}, {"url (", list(ident("url"), space, open)}, {"urla(a)", list(fn("urla"), ident("a"), shut)}, {"xurl(a)", list(fn("xurl"), ident("a"), shut)}, {"ur(a)", list(fn("ur"), ident("a"), shut)}, {"-url(a)", list(fn("-url"), ident("a"), shut)}, {"#url(a)", list(hashId("url"), open, ident("a"), shut)}, {`\75rl(a)`, list(url("a"))}, {`u\72 l(a b)`, list(badU)}, {`\55\52\4c(a)`, list(url("a"))}, {`url\(a)`, list(ident("url(a"), shut)},
		{`url("a")`, list(fn("url"), str("a"), shut)}, {`UrL('a')`, list(fn("UrL"), str("a"), shut)}, {`url( "a")`, list(fn("url"), space, str("a"), shut)}, {"url(\n\t 'a')", list(fn("url"), space, str("a"), shut)}, {`url("`, list(fn("url"), str(""))}, {`url( '`, list(fn("url"), space, str(""))}, {`url("a"b)`, list(fn("url"), str("a"), ident("b"), shut)}, {`url(/**/"a")`, list(badU)}, {`\75 rl("a")`, list(fn("url"), str("a"), shut)},
		{"url(a b)c", list(badU, ident("c"))}, {"url(a b", list(badU)}, {"url(a \n", list(url("a"))}, {`url(a"b")c`, list(badU, ident("c"))}, {`url(a')c`, list(badU, ident("c"))}, {"url(a(b)c", list(badU, ident("c"))}, {"url(()", list(badU)}, {"url(a\x00)", list(badU)}, {"url(a\x01b)c", list(badU, ident("c"))}, {"url(\x08)", list(badU)}, {"url(\v)", list(badU)}, {"url(\x0e)", list(badU)}, {"url(\x1f)", list(badU)}, {"url(a\x7f", list(badU)}, {"url(\f)", list(url("\f"))}, {"url(\r)", list(url("\r"))}, {"url( \f )", list(url("\f"))},
		{`url(a\)b)`, list(url("a)b"))}, {`url(\41 b)`, list(url("Ab"))}, {`url(\41  b)`, list(badU)}, {`url(\41  )`, list(url("A"))}, {"url(\\41\n)", list(url("A"))}, {`url(a\`, list(url("a\uFFFD"))}, {`url(\0)`, list(url("\uFFFD"))}, {`url(\ )`, list(url(" "))}, {`url(\")`, list(url(`"`))}, {"url(\\\x01)", list(url("\x01"))}, {"url(a\\\n)b", list(badU, ident("b"))}, {"url(\\\n", list(badU)}, {"url(a\\\nb\\))c", list(badU, ident("c"))},
		{`url(a"\))c`, list(badU, ident("c"))}, {`url(a "\)`, list(badU)}, {`url(a b\`, list(badU)}, {`url(a b\41 )c`, list(badU, ident("c"))}, {"url(a b\\\n)c", list(badU, ident("c"))}, {`url(a \) )c`, list(badU, ident("c"))}, {`url(a "b)c"`, list(badU, ident("c"), str(""))}, {"url(a b;c}d", list(badU)}, {`url(a b\\)c`, list(badU, ident("c"))},
	})
}

// P3.1: what is no character counts as the replacement, wherever it stands.
func TestNoCharacters(t *testing.T) {
	wrong := []rune{-1, math.MinInt32, 0xD800, 0xDBFF, 0xDC00, 0xDFFF, 0x110000, math.MaxInt32}
	for _, text := range []string{"?", "a?b", "-?", "#?", "@?", "1?", "1e?", "+?", ".?", `\?`, `\4?`, `\41?`, `"?"`, `"?`, `"\?`, "url(?)", "url( ?", "url(a ?)", `url(\?`, "url(a b?)c", "url?(a)", "/*?*/a", "/*?", "<?", "?(", " ? ", ";?", "?:?", "--?"} {
		for _, c := range wrong {
			l, clean := []rune(text), []rune(text)
			for i := range l {
				if l[i] == '?' {
					l[i], clean[i] = c, 0xFFFD
				}
			}
			if got, want := Tokens(l), Tokens(clean); !slices.Equal(got, want) {
				t.Errorf("%q with %x: %v, not %v", text, c, got, want)
			}
			gotA, gotB, gotC := Starts(l)
			wantA, wantB, wantC := Starts(clean)
			if gotA != wantA || gotB != wantB || gotC != wantC {
				t.Errorf("Starts of %q with %x: %v %v %v", text, c, gotA, gotB, gotC)
			}
		}
	}
	if got := Tokens([]rune{'a', -1, 0x110000, 0}); !slices.Equal(got, list(ident("a\uFFFD\uFFFD"), delim("\x00"))) {
		t.Errorf("%v", got)
	}
}

// P3.1: 0, C and D stand for themselves.
func TestCharactersThatDecodeDoesAwayWith(t *testing.T) {
	for _, c := range []string{"\x00", "\f", "\r"} {
		hold(t, []example{
			{c, list(delim(c))}, {"a" + c + "b", list(ident("a"), delim(c), ident("b"))}, {`"a` + c + `b"`, list(str("a" + c + "b"))}, {`\` + c, list(ident(c))}, {`\41` + c, list(ident("A"), delim(c))}, {`"\` + c + `"`, list(str(c))},
			{"/*" + c + "*/", nil}, {" " + c + " ", list(space, delim(c), space)}, {"1" + c, list(whole(1), delim(c))}, {"#" + c, list(delim("#"), delim(c))}, {"@" + c, list(delim("@"), delim(c))}, {"-" + c, list(delim("-"), delim(c))}, {`#\` + c, list(hashId(c))},
		})
	}
	hold(t, []example{{"url(\x00)", list(badU)}, {"url(a\fb)", list(url("a\fb"))}, {"url(a\rb)", list(url("a\rb"))}, {"url(\f\"a\")", list(badU)}, {"\"a\rb\fc", list(str("a\rb\fc"))}, {"\r\n", list(delim("\r"), space)}})
}

// P3.2
func TestBytes(t *testing.T) {
	for _, x := range []example{
		{"", nil}, {"a:b", list(ident("a"), colon, ident("b"))}, {"\xEF\xBB\xBFa", list(ident("a"))}, {"\xEF\xBB\xBF\xEF\xBB\xBFa", list(ident("\uFEFFa"))}, {"a\r\nb", list(ident("a"), space, ident("b"))}, {"\f", list(space)}, {"\r", list(space)}, {"\x00", list(ident("\uFFFD"))}, {"é", list(ident("é"))}, {"\xC3", list(ident("\uFFFD"))}, {"\xF0\x9F\x98(", list(fn("\uFFFD"))},
		{"\"a\r\nb", list(badS, space, ident("b"))}, {"\"a\\\r\nb\"", list(str("ab"))}, {"\"a\\\fb\"", list(str("ab"))}, {"\\41\r\nb", list(ident("Ab"))}, {"\\\r", list(delim(`\`), space)}, {"url(\x00)", list(url("\uFFFD"))}, {"url(a\r\n)", list(url("a"))}, {"url(\f'a'", list(fn("url"), space, str("a"))}, {"\\\xFF", list(ident("\uFFFD"))},
	} {
		if got := Bytes([]byte(x.text)); !slices.Equal(got, x.want) {
			t.Errorf("%q: %v, not %v", x.text, got, x.want)
		}
	}
	for first := range 256 {
		for second := range 256 {
			for _, b := range [][]byte{{byte(first), byte(second)}, {'"', byte(first), byte(second), 'a'}, {'\\', byte(first), byte(second)}} {
				if got, want := Bytes(b), Tokens(utf.Decode(b)); !slices.Equal(got, want) {
					t.Fatalf("% x: %v, not %v", b, got, want)
				}
			}
		}
	}
}

// P3.3
func TestStarts(t *testing.T) {
	type answer struct{ ident, number, escape bool }
	none, name, number, both := answer{}, answer{ident: true}, answer{number: true}, answer{ident: true, escape: true}
	for text, want := range map[string]answer{
		"": none, " ": none, "\n": none, "a": name, "Z": name, "_": name, "\u0080": name, "\U0010FFFF": name, "\x7f": none, "\x00": none, "@": none, "[": none, "`": none, "{": none, "a1": name, "abc": name, "ab\\": name, " a": none, "\"a": none,
		"-": none, "-a": name, "--": name, "--1": name, "-->": name, "-é": name, "-_": name, "-1": number, "-.1": number, "-.": none, "-.a": none, "- a": none, "-+1": none, "->": none, "-\\": name, "-\\a": name, "-\\\n": none, "-\\1": name, "--\\": name,
		"+": none, "+a": none, "+1": number, "+.1": number, "+.": none, "+-1": none, "++1": none, "+\\a": none, "+--": none, "+1a": number, ".": none, ".1": number, ".a": none, "..1": none, ".-1": none, ".+1": none, "0": number, "9x": number, "1": number, "/": none, ":": none, "1.5": number, "e1": name,
		"\\": both, "\\a": both, "\\\n": none, "\\\\": both, "\\1": both, "\\ ": both, "\\\f": both, "\\\r": both, "\\\x00": both, "a\\": name, "1\\": number, "\\-1": both, "#a": none, "+.\n1": none,
	} {
		var got answer
		got.ident, got.number, got.escape = Starts([]rune(text))
		if got != want {
			t.Errorf("%q: %v, not %v", text, got, want)
		}
	}
	for _, c := range []rune{-1, 0xD800, 0x110000} {
		if a, b, e := Starts([]rune{c}); !a || b || e {
			t.Errorf("%x counts as the replacement: %v %v %v", c, a, b, e)
		}
		if a, b, e := Starts([]rune{'\\', c}); !a || b || !e {
			t.Errorf("\\ and %x: %v %v %v", c, a, b, e)
		}
	}
}

// P3.1, P3.3: the first three places alone say what begins.
func TestStartsOfLongerOnes(t *testing.T) {
	signs := []rune{'-', '+', '.', '1', 'a', '\\', '\n', ' ', 'é', '>', -1}
	for _, a := range signs {
		for _, b := range signs {
			for _, c := range signs {
				l := []rune{a, b, c}
				wantA, wantB, wantC := Starts(l)
				for _, d := range signs {
					if gotA, gotB, gotC := Starts(append(l, d)); gotA != wantA || gotB != wantB || gotC != wantC {
						t.Fatalf("%q and %q", string(l), string(d))
					}
				}
			}
		}
	}
}

// R2: what is handed in stays as it is; what lies behind its length is not read; an answer is the caller's own.
func TestMemory(t *testing.T) {
	for _, text := range []string{"a", "-", "1", "1e", "1e+", "1.", "+", "#", "@", "<!-", "--", "\\", "\\4", "\"a", "\"\\", "url", "url(", "url(a", "url(a ", "url(a b", "/", "/*", "/* *", "a b:c", ""} {
		for _, spare := range []string{"a", "1", ".5", "\n", ")", "*/", "/", "-", ">", "\"", "("} {
			whole := []rune(text + spare)
			l, kept := whole[:len([]rune(text))], slices.Clone(whole)
			want := Tokens(slices.Clip(slices.Clone(l)))
			got := Tokens(l)
			if !slices.Equal(got, want) {
				t.Errorf("%q, with %q behind its end: %v, not %v", text, spare, got, want)
			}
			gotA, gotB, gotC := Starts(l)
			wantA, wantB, wantC := Starts(slices.Clip(slices.Clone(l)))
			if gotA != wantA || gotB != wantB || gotC != wantC {
				t.Errorf("Starts of %q, with %q behind its end", text, spare)
			}
			clear(got[:cap(got)])
			if !slices.Equal(Tokens(l), want) || !slices.Equal(whole, kept) {
				t.Errorf("%q: something is changed or kept", text)
			}
			raw := []byte(text + spare)
			short := raw[:len(text)]
			if !slices.Equal(Bytes(short), Bytes([]byte(text))) || string(raw) != text+spare {
				t.Errorf("Bytes of %q, with %q behind its end", text, spare)
			}
		}
	}
	l := []rune{'a', -1, 0xD800, 0, '\f', '\r'}
	kept := slices.Clone(l)
	if Tokens(l); !slices.Equal(l, kept) {
		t.Errorf("what is no character is changed in the caller's list: %x", l)
	}
}

// R3
func TestNothing(t *testing.T) {
	for _, got := range [][]api.Token{Tokens(nil), Tokens([]rune{}), Bytes(nil), Bytes([]byte{})} {
		if len(got) != 0 {
			t.Errorf("%v", got)
		}
	}
	if a, b, c := Starts(nil); a || b || c {
		t.Errorf("Starts(nil): %v %v %v", a, b, c)
	}
}

// R3: long texts of one piece end, too, and each token of them is found.
func TestLongTexts(t *testing.T) {
	const times = 20000
	for piece, want := range map[string]int{"a ": 2 * times, "url(": 1, "/* ": 0, "/**/": 0, "\"": times / 2, "\"\n": 2 * times, "\\": 1, "\\a ": 1, "1e": 1, "+": times, "1+": times + 1, "<!--": times, "-->": times, "(": times, " ": 1, "#": times, "'\\\n": times / 2 * 3, "url(a b": 1, "url(a)": times, "-": 1} {
		if got := Tokens([]rune(strings.Repeat(piece, times))); len(got) != want {
			t.Errorf("%q: %d tokens, not %d", piece, len(got), want)
		}
	}
}
