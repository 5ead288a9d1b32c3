package print

import (
	"math/rand"
	"reflect"
	"slices"
	"strings"
	"testing"

	"jalousie/api"
	"jalousie/rule"
	"jalousie/tok"
)

// readAgain: P6.5, of one text; what is written of it. Same is not trusted here, but held against the library's answer.
func readAgain(t *testing.T, b []byte) string {
	t.Helper()
	l := sheet(t, string(b))
	text, e := Rules(l)
	if e != api.OK {
		t.Fatalf("%q: %d", b, e)
	}
	again, e := rule.Sheet([]byte(text))
	if len(text) > api.MaxText {
		again, e = rule.Rules(tok.Bytes([]byte(text))), api.OK
	}
	if e != api.OK || !reflect.DeepEqual(again, l) || !Same(again, l) {
		t.Fatalf("%q: %q is read otherwise", b, text)
	}
	if twice, e := Rules(again); e != api.OK || twice != text {
		t.Fatalf("%q: %q, and written again %q", b, text, twice)
	}
	return text
}

// P6.5: texts, and what is written of their rules.
func TestWritten(t *testing.T) {
	for _, c := range [][2]string{
		{"", ""}, {" ", ""}, {"a", ""}, {"a{}", "a{}"}, {" a { } b { } ", "a{}b{}"}, {"{}", "{}"}, {"a{b:c}", "a{b:c;}"}, {"a,b > c{}", "a,b > c{}"}, {"A{B:C;--B:C}", "A{b:C;--B:C;}"},
		// remarks
		{"/*x*/a/*y*/b /**/ c{}/*", "a/**/b /**/ c{}"}, {"a{b/**/:/**/c/**/d/**/;/**/e:f}", "a{b:c/**/d;e:f;}"}, {"a{b:1/**/2;c:+/**/3;d:#e/**/f;g:h/**/(i)}", "a{b:1/**/2;c:+/**/3;d:#e/**/f;g:h/**/(i);}"}, {"@media/**/x/**/y{}", "@media x/**/y{}"}, {"a/**//{}", "a/**//{}"}, {"a{b://**/*}", "a{b://**/*;}"},
		// escapes
		{`\61 \{b\}{\63 :\64 }`, `a\{b\}{c:d;}`}, {`\31{\--:\!}`, `\31 {--:\!;}`}, {"a{b:\\\n;c:d}", "a{b:\\\n;c:d;}"}, {"a\\\n{}", "a/**/\\\n{}"}, {"a{b:\\\n!important}", "a{b:\\\n !important;}"}, {"a{b:c\\", "a{b:c\uFFFD;}"}, {`a{\a :"\a "}`, `a{\a :"\a ";}`}, {`a{b:1\65 3;c:1\65;d:1e3;e:1e}`, "a{b:1\\65 3;c:1e;d:1000.0;e:1e;}"}, {`@\6d edia x{}`, "@media x{}"},
		// strings and urls, whole and not
		{"a{b:'c", "a{b:\"c\";}"}, {"a{b:'c\nd;e:f}", "a{b:\"\n d;e:f;}"}, {"a'\n{}", "a\"\n{}"}, {"@media '\n{a{}}", "@media \"\n{a{}}"}, {"a{b:'\n!important;c:('\n)}", "a{b:\"\n !important;c:(\"\n );}"}, {"a{b:url(c", "a{b:url(c);}"}, {"a{b:url( 'c'}", "a{b:url( \"c\"});}"}, {"a{b:url(c d);e:f}", "a{b:url(();e:f;}"}, {"a{b:URL('\n", "a{b:URL(\"\n );}"}, {"a{b:url(\"c\" d}", "a{b:url(\"c\" d});}"},
		// openers that are never closed; closers that close nothing
		{"a{", "a{}"}, {"a{b:(c", "a{b:(c);}"}, {"@media x{@supports (y{", "@media x{}"}, {"@media x{@supports (y){z[q]{a:f({[(b", "@media x{@supports (y){z[q]{a:f({[(b)]});}}}"}, {"} a{}", "} a{}"}, {"a{b:)]}c{}", "a{b:)];}c{}"}, {"(}){b:{)};c:d}", "(}){b:{)};c:d;}"}, {"@media x)]{)a{}]b{}}", "@media x)]{)a{}]b{}}"},
		// what falls
		{"@font{a}b{c;d:e;1:2;@x{y:z}f:g;h{i}j:k}", "b{d:e;f:g;}"}, {"@media x;a{}@import y;b{}", "a{}b{}"}, {"a{b:c}d", "a{b:c;}"}, {"@media x{a b}c{}", "@media x{}c{}"}, {"a{b c:d;e:f}", "a{e:f;}"}, {"@media ( { a{} }", ""},
		// groups; TCdo and TCdc
		{"@MEDIA x{a{}}@Supports(b:c){}@container  d {}", "@media x{a{}}@supports (b:c){}@container d{}"}, {"@media{{}}", "@media {{}}"}, {"<!--a{}-->b <!-- c{}", "a{}b <!-- c{}"}, {"@media x{<!-- a{} --> b{}}", "@media x{<!-- a{}--> b{}}"}, {"a;b{}@c @media{}", "a;b{}"}, {"a @media x{}", "a @media x{}"}, {"@media @media{}", "@media @media{}"},
		// important
		{"a{b:!important;c:d!important!important;e:! important f;g:!}", "a{b: !important;c:d/**/!/**/important !important;e:! important f;g:!;}"}, {"a{b:c ! /**/ important ;d:}", "a{b:c !important;d:;}"}, {"a{important:important;b:\"!\"important}", "a{important:important;b:\"!\"important;}"},
		// any bytes
		{"\xef\xbb\xbfa{}", "a{}"}, {"\xef\xbb\xbf\xef\xbb\xbfa{}", "\\feff a{}"}, {"\x00{\xff:\xc3}", "\uFFFD{\uFFFD:\uFFFD;}"}, {"a\r\n\fb{\x01:\x7f;c:\x01\x0b}", "a b{c:\x01/**/\x0b;}"}, {"é{ü:ß}", "é{ü:ß;}"},
		// numbers
		{"a{b:1.50;c:-0;d:+.5e1;e:1e400;f:99999999999999999999px;g:50%}", "a{b:1.5;c:0;d:5.0;e:1e99;f:99999999999999999999px;g:50%;}"},
	} {
		if got := readAgain(t, []byte(c[0])); got != c[1] {
			t.Errorf("%q: %q, not %q", c[0], got, c[1])
		}
	}
}

// P6.5: rules and values nested just MaxNest deep, and what of a text nests deeper.
func TestWrittenDeep(t *testing.T) {
	nest := func(open string, n int, inner, shut string) string {
		return strings.Repeat(open, n) + inner + strings.Repeat(shut, n)
	}
	deep, deeper := nest("(", 64, "x", ")"), nest("(", 65, "x", ")")
	for _, c := range [][2]string{
		{nest("@media x{", 63, "a{b:c;}", "}"), nest("@media x{", 63, "a{b:c;}", "}")}, {nest("@media x{", 64, "a{b:c;}", "}"), nest("@media x{", 64, "", "}")}, {nest("@media x{", 65, "", "}"), nest("@media x{", 64, "", "}")}, {nest("@media x{", 300, "", ""), nest("@media x{", 64, "", "}")},
		{"a{b:" + deep + ";}", "a{b:" + deep + ";}"}, {"a{b:" + deeper + ";c:d;}", "a{c:d;}"}, {"a{b:" + strings.Repeat("(", 64), "a{b:" + nest("(", 64, "", ")") + ";}"}, {"a{b:" + strings.Repeat("(", 65), "a{}"},
		{deep + "{}" + deeper + "{}a{}", deep + "{}a{}"}, {"@media " + deep + "{}@media " + deeper + "{}", "@media " + deep + "{}"}, {nest("@media "+deep+"{", 63, deep+"{a:"+deep+";}", "}"), nest("@media "+deep+"{", 63, deep+"{a:"+deep+";}", "}")},
	} {
		if got := readAgain(t, []byte(c[0])); got != c[1] {
			t.Errorf("%q: %q, not %q", c[0], got, c[1])
		}
	}
}

// P6.5: texts of MaxText bytes; some become longer than a stylesheet may be, and OK is told all the same.
func TestWrittenLong(t *testing.T) {
	long := 0
	for _, s := range []string{"a{b:c}", "a{}", ">", "{}", "1 ", "'\n", "\\\n", "\x01", "\xff{\x00}", "f(", "@media{", "a{b:1e9 1e400}", "a{b:(", "[{(", "/**/", "a{--b:!important;", "é", "\\10ffff", "#-"} {
		for _, wrap := range [][2]string{{"", ""}, {"a{b:", "}"}, {"", "{}"}, {"@media ", "{a{}}"}, {"@container x{", "{}}"}} {
			n := (api.MaxText - len(wrap[0]) - len(wrap[1])) / len(s)
			text := readAgain(t, []byte(wrap[0]+strings.Repeat(s, n)+wrap[1]))
			if len(text) > api.MaxText {
				long++
			}
		}
	}
	if long < 5 {
		t.Error("too few have become longer:", long)
	}
}

// pieces: of these all kinds of texts are made.
var pieces = []string{
	"a", " ", "{", "}", ":", ";", "b:c;", "(", ")", "@media ", "!important", "/**/", "\n", ",", "[", "]", "f(", "@supports(x){", "@container y{", "}", "a{", "--C:",
	"<!--", "-->", "/*", "*/", "\"", "'", "url(", "url( ", "URL('", "\\", "\\\n", "\\31 ", "\\7b", "\\0", "\\feff ", "\\110000", "1", "1px", "+2.50", "-.5e-3", "1e99", "1e", "e3", "%", "#", "#b", "#1", "--", "-", "-x", "B", "_", "é", "\uFEFF", "\uFFFD",
	"!", " ! IMPORTANT", "important", "@", "@font ", "@MEDIA", ".", "+", "<", ">", "=", "~", "*", "/", "|", "^", "$", "&", "?", "`", "\x00", "\x01", "\x0b", "\f", "\r", "\r\n", "\t", "\x7f", "\x80", "\xff", "\xc3", "\xef\xbb\xbf", "\xed\xa0\x80", "\xf0\x9f\x98\x80",
}

func somePieces(r *rand.Rand, most int) []byte {
	var b []byte
	for range r.Intn(most + 1) {
		n := len(pieces)
		if r.Intn(2) == 0 {
			n = 22
		}
		b = append(b, pieces[r.Intn(n)]...)
	}
	return b[:min(len(b), api.MaxText)]
}

// T3, P6.5: any bytes; and each pair of pieces, in a prelude, in a value, in a block.
func TestAnyBytes(t *testing.T) {
	for _, a := range pieces {
		for _, b := range pieces {
			s := a + b
			readAgain(t, []byte(s))
			readAgain(t, []byte(s+"{"+s+"}"+s))
			readAgain(t, []byte("x{y:"+s+";z:("+s+")!important}@media "+s+"{x{}"+s+"{}}"))
		}
	}
	r := rand.New(rand.NewSource(11))
	for range 60000 {
		readAgain(t, somePieces(r, 40))
	}
	for range 200 {
		readAgain(t, somePieces(r, 5000))
	}
	for range 200 {
		b := make([]byte, r.Intn(api.MaxText+1))
		r.Read(b)
		readAgain(t, b)
	}
}

// P6.6
func TestTwoLists(t *testing.T) {
	check := func(a, b []api.Rule) {
		t.Helper()
		first, e1 := Rules(a)
		second, e2 := Rules(b)
		both, e := Rules(slices.Concat(a, b))
		if e1 != api.OK || e2 != api.OK {
			told(t, "both, one of which may not be", both, e, "", api.ErrArg)
			return
		}
		told(t, "both", both, e, first+second, api.OK)
	}
	r := rand.New(rand.NewSource(12))
	for range 5000 {
		check(sheet(t, string(somePieces(r, 40))), sheet(t, string(somePieces(r, 40))))
	}
	tokens := fine()
	for seed := range 5000 {
		r := raw{rand.New(rand.NewSource(int64(seed))), 100, tokens}
		check(r.rules(2), r.rules(2))
	}
	check(nil, nil)
	check(groups(64, nil), groups(64, nil))
	check(groups(63, []api.Rule{{Kind: api.RStyle}}), groups(65, nil))
}

// R3: lists that are long.
func TestFar(t *testing.T) {
	const far = 1 << 17
	got, e := Values(slices.Repeat(lone(ident("a")), far))
	told(t, "values", got[:8], e, "a/**/a/*", api.OK)
	if len(got) != 5*far-4 {
		t.Error(len(got))
	}
	got, e = Decls(slices.Repeat([]api.Decl{{Name: "a", Important: true}}, far))
	told(t, "declarations", got, e, strings.Repeat("a: !important;", far), api.OK)
	got, e = Rules(slices.Repeat([]api.Rule{{Kind: api.RStyle, Decls: []api.Decl{{Name: "b"}}}, {Kind: api.RGroup, Name: "supports"}}, far))
	told(t, "rules", got, e, strings.Repeat("{b:;}@supports {}", far), api.OK)
}

// R6: the same again, and of many at once.
func TestSameAgain(t *testing.T) {
	l := sheet(t, "@media x{a{b:c!important}}d e{f:(g")
	want := "@media x{a{b:c !important;}}d e{f:(g);}"
	answers := make(chan string)
	for range 8 {
		go func() {
			got, _ := Rules(l)
			answers <- got
		}()
	}
	for range 8 {
		if got := <-answers; got != want {
			t.Error(got)
		}
	}
	if !Same(l, sheet(t, want)) {
		t.Error("another answer")
	}
}
