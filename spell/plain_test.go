package spell

import (
	"math/rand"
	"regexp"
	"slices"
	"strconv"
	"strings"
	"testing"
	"unicode/utf8"

	"jalousie/api"
	"jalousie/rat"
	"jalousie/tok"
)

// The chapter's words as expressions: a second reading of it, against which the program is held.
var (
	hiddenRe  = regexp.MustCompile(`[\x01-\x1f\x7f\x{FEFF}]`)
	slashRe   = regexp.MustCompile(`[^\x01-\x1f\x7fa-zA-Z0-9_\x{80}-\x{10FFFF}-]`)
	firstRe   = regexp.MustCompile(`\A(-?)([0-9])`)
	bareRe    = regexp.MustCompile(`\A(?:[0-9]|-\z|-[0-9])`)
	exponRe   = regexp.MustCompile(`\A[eE]-?[0-9]`)
	quoteRe   = regexp.MustCompile(`["\\]`)
	inUrlRe   = regexp.MustCompile(`["'()\\]`)
	urlHideRe = regexp.MustCompile(`[\x01-\x20\x7f\x{FEFF}]`)
	delimRe   = regexp.MustCompile("\\A[#$%&*+\\-./<=>?@\\\\^`|~!\\x01-\\x08\\x0b\\x0e-\\x1f\\x7f]\\z")
)

func escape(s string) string {
	c, _ := utf8.DecodeRuneInString(s)
	return `\` + strconv.FormatUint(uint64(c), 16) + " "
}

// plainText: s with some of its characters slashed, some by their numbers. The slashes are set first: they are not hidden.
func plainText(s string, slashed, hidden *regexp.Regexp) string {
	return hidden.ReplaceAllStringFunc(slashed.ReplaceAllString(s, `\$0`), escape)
}

func plainName(s string) string { return plainText(s, slashRe, hiddenRe) }

func plainIdent(s string) string {
	if s == "-" {
		return `\-`
	}
	if m := firstRe.FindStringSubmatch(s); m != nil {
		return m[1] + escape(m[2]) + plainName(s[len(m[0]):])
	}
	return plainName(s)
}

func plainNumber(one api.Token) string {
	s, _ := rat.Plain(one.Num, one.Int)
	return s
}

func plainUnit(s string) string {
	if exponRe.MatchString(s) {
		return escape(s[:1]) + plainName(s[1:])
	}
	return plainIdent(s)
}

// plain: the text of a token that may be.
func plain(one api.Token) string {
	switch one.Kind {
	case api.TIdent:
		return plainIdent(one.Text)
	case api.TFunc:
		return plainIdent(one.Text) + "("
	case api.TAt:
		return "@" + plainIdent(one.Text)
	case api.THash:
		if one.Id {
			return "#" + plainIdent(one.Text)
		}
		return "#" + plainName(one.Text)
	case api.TString:
		return `"` + plainText(one.Text, quoteRe, hiddenRe) + `"`
	case api.TUrl:
		return "url(" + plainText(one.Text, inUrlRe, urlHideRe) + ")"
	case api.TDelim:
		return strings.Replace(one.Text, `\`, "\\\n", 1)
	case api.TNumber:
		return plainNumber(one)
	case api.TPercent:
		return plainNumber(one) + "%"
	case api.TDim:
		return plainNumber(one) + plainUnit(one.Text)
	}
	return map[int]string{api.TBadString: "\"\n", api.TBadUrl: "url(()", api.TSpace: " ", api.TCdo: "<!--", api.TCdc: "-->", api.TColon: ":", api.TSemi: ";", api.TComma: ",", api.TOpenSquare: "[", api.TCloseSquare: "]", api.TOpenParen: "(", api.TCloseParen: ")", api.TOpenCurly: "{", api.TCloseCurly: "}"}[one.Kind]
}

// plainMay: may it be?
func plainMay(one api.Token) bool {
	text, number, id := uses(one.Kind)
	if one.Kind < 1 || one.Kind > 24 || !text && one.Text != "" || !number && (one.Num != api.Rat{} || one.Int) || !id && one.Id {
		return false
	}
	if number {
		if _, e := rat.Plain(one.Num, one.Int); e != api.OK {
			return false
		}
	}
	if one.Kind == api.TDelim {
		return delimRe.MatchString(one.Text)
	}
	if one.Text == "" {
		return !text || one.Kind == api.TString || one.Kind == api.TUrl
	}
	if !utf8.ValidString(one.Text) || strings.ContainsRune(one.Text, 0) {
		return false
	}
	return !id || one.Id || bareRe.MatchString(one.Text)
}

// readAlone: those of which P4.7 speaks.
func readAlone(one api.Token) bool {
	return one != badS && one != delim(`\`) && !(one.Kind == api.TFunc && strings.ToLower(one.Text) == "url")
}

// hold holds one token against the second reading, and reads it again.
func hold(t *testing.T, one api.Token) {
	t.Helper()
	may := plainMay(one)
	if May(one) != may {
		t.Fatalf("%+v: may it be? %v", one, !may)
	}
	got, e := Token(one)
	if !may {
		if got != "" || e != api.ErrArg {
			t.Fatalf("%+v: %q %d", one, got, e)
		}
		return
	}
	if want := plain(one); got != want || e != api.OK {
		t.Fatalf("%+v: %q %d, not %q", one, got, e, want)
	}
	if back := tok.Bytes([]byte(got)); readAlone(one) && !slices.Equal(back, []api.Token{one}) {
		t.Fatalf("%+v: %q is read as %+v", one, got, back)
	}
}

// holdText holds a token of each kind that has a text.
func holdText(t *testing.T, s string) {
	t.Helper()
	for _, kind := range []int{api.TIdent, api.TFunc, api.TAt, api.THash, api.TString, api.TUrl, api.TDelim, api.TDim} {
		hold(t, api.Token{Kind: kind, Text: s})
	}
	hold(t, hashId(s))
	hold(t, dim(s))
	hold(t, api.Token{Kind: api.TDim, Text: s, Num: num(-3, 2)})
}

// P4.1, P4.2, P4.7: each character, alone and behind others.
func TestCharacters(t *testing.T) {
	characters := []rune{0x2028, 0x3000, 0xD7FF, 0xE000, 0xFDD0, 0xFEFE, 0xFEFF, 0xFF00, 0xFFFD, 0xFFFE, 0xFFFF, 0x10000, 0x1FEFF, 0x10FEFF, 0x10FFFF}
	for c := rune(0); c < 0x180; c++ {
		characters = append(characters, c)
	}
	for _, c := range characters {
		s := string(c)
		for _, ahead := range []string{"", "-", "--", "a", "1", "-1", "e", "E", "e-", "E-", "e3", "\\", "\"", " ", "\uFEFF", "\n"} {
			for _, behind := range []string{"", "a", "1", "-", " ", "3g"} {
				holdText(t, ahead+s+behind)
			}
		}
	}
}

// P4.1, P4.2, P4.7: bytes that may be no characters.
func TestAnyBytes(t *testing.T) {
	source := rand.New(rand.NewSource(1))
	for range 20000 {
		b := make([]byte, source.Intn(5))
		source.Read(b)
		holdText(t, string(b))
	}
	for a := range 256 {
		holdText(t, string([]byte{byte(a)}))
		holdText(t, string([]byte{'1', byte(a)}))
		holdText(t, string([]byte{byte(a), 0x80}))
		holdText(t, string([]byte{byte(a), 0xBB, 0xBF}))
	}
}

// P4.1, P4.2, P4.7: texts of pieces that mean something.
func TestStrewnNames(t *testing.T) {
	pieces := strings.Split("a|e|E|1|0|-|--|_|.|+|%|\\|\"|'|(|)| |\n|\r|\f|\t|\x01|\x00|\x7f|é|😀|\uFEFF|\uFFFD|url|URL|#|@|/*|*/|<!--|-->|;|3|px", "|")
	for _, s := range strewn(2, 30000, pieces) {
		holdText(t, s)
	}
}

// P4.1, P4.2, P4.7: numbers, of all three kinds.
func TestNumbers(t *testing.T) {
	source := rand.New(rand.NewSource(3))
	part := func() int64 { return int64(source.Uint64()) >> source.Intn(64) }
	for range 30000 {
		r := num(part(), part())
		if source.Intn(2) == 0 {
			r = rat.Of(part(), []int64{1, 2, 5, 8, 10, 1000, 1e9, 1e18, 3, 1 << 20}[source.Intn(10)])
		}
		for _, whole := range []bool{false, true} {
			hold(t, number(api.TNumber, r, whole))
			hold(t, number(api.TPercent, r, whole))
			for _, unit := range []string{"px", "e3", "-", "1"} {
				hold(t, api.Token{Kind: api.TDim, Text: unit, Num: r, Int: whole})
			}
		}
	}
}

// P4.1: any fields at all.
func TestRawTokens(t *testing.T) {
	source := rand.New(rand.NewSource(4))
	texts := []string{"", "", "", "a", "1", "-", "-1", "#", "\\", "\x00", "\xff", "e3", "url"}
	nums := []api.Rat{{}, {}, {}, num(1, 1), num(1, 2), num(1, 3), num(2, 4), num(1, 0), num(0, 1)}
	for range 60000 {
		one := api.Token{Kind: source.Intn(28) - 1, Text: texts[source.Intn(len(texts))], Num: nums[source.Intn(len(nums))]}
		one.Int, one.Id = source.Intn(3) == 0, source.Intn(3) == 0
		hold(t, one)
	}
}

// strewn: so many texts of pieces, in any order.
func strewn(seed int64, count int, pieces []string) []string {
	source := rand.New(rand.NewSource(seed))
	var l []string
	for range count {
		var s strings.Builder
		for range source.Intn(10) {
			s.WriteString(pieces[source.Intn(len(pieces))])
		}
		l = append(l, s.String())
	}
	return l
}

// holdAgain writes what is read of s, and reads it again.
func holdAgain(t *testing.T, s string) {
	t.Helper()
	l := tok.Bytes([]byte(s))
	text, e := Tokens(l)
	if e != api.OK {
		t.Fatalf("%q: %+v: %d", s, l, e)
	}
	if back := tok.Bytes([]byte(text)); !slices.Equal(back, l) {
		t.Fatalf("%q: %q is read as\n%+v, not\n%+v", s, text, back, l)
	}
}

// P4.6: all bytes, two by two, and behind what may go on.
func TestPairsAgain(t *testing.T) {
	for a := range 256 {
		for b := range 256 {
			two := string([]byte{byte(a), byte(b)})
			for _, ahead := range []string{"", "1", "url(", "\"", "#", "@", "\\", "-"} {
				holdAgain(t, ahead+two)
			}
		}
	}
}

// P4.6
func TestStrewnAgain(t *testing.T) {
	pieces := strings.Split("a|e|f|url|URL|url(|uRl( |url(\"|(|)|[|]|{|}|,|:|;|#|@|<!--|-->|<!|--|-|+|.|1|0|25|.5|1e|1e99|99999999999999999999|e3|e-3|%|px|\"|'|\\|\\\n|\\\n/**/ |\\65 3|\\31 |\\0|\\20 |\\feff |\\\"|\n| |\t|  |/*|*/|/|*|/**/|/**/|é|😀|\x00|\x01|\f|\r|\v|\x7f|!|~|=|$|^|`|?|&|>|<|\uFFFD|\uFEFF|\xff|\xc3|url(a b)|url(x)|\"\n|\"\n/**/ ", "|")
	for _, s := range strewn(5, 100000, pieces) {
		holdAgain(t, s)
	}
}

// P4.6: every two and three kinds side by side, as far as a text of them can be.
func TestKindsSideBySide(t *testing.T) {
	pieces := []string{"a", "-", "--", "\\-", "\\31 ", "f(", "url('x'", "@a", "@", "#a", "#1", "#-", "#", "\"x\"", "\"\n", "url(a)", "url((b)", "\\\n", "+", ".", "<", "!", ">", "/", "*", "%", "\x01", "1", "1.5", "+.5", "-1", "1e99", "5%", "1px", "1e", "1\\65 3", "1--", " ", "<!--", "-->", ":", ";", ",", "[", "]", "(", ")", "{", "}"}
	for _, a := range pieces {
		for _, b := range pieces {
			for _, c := range append(pieces, "") {
				holdAgain(t, a+"/**/"+b+"/**/"+c)
				holdAgain(t, a+b+c)
			}
		}
	}
}

// P4.4, P4.6: of tokens that may be, in any order, the text is theirs, one by one, with remarks between; it is read as they are, but where a bad string, a \ or a url asks for something behind it.
func TestStrewnTokens(t *testing.T) {
	source := rand.New(rand.NewSource(6))
	for range 30000 {
		var l []api.Token
		var want strings.Builder
		plainly := true
		for range source.Intn(8) {
			x := written[source.Intn(len(written))].one
			if len(l) > 0 && Apart(l[len(l)-1], x) {
				want.WriteString("/**/")
			}
			want.WriteString(plain(x))
			l, plainly = append(l, x), plainly && readAlone(x)
		}
		got, e := Tokens(l)
		if got != want.String() || e != api.OK {
			t.Fatalf("%+v: %q %d, not %q", l, got, e, want.String())
		}
		if back := tok.Bytes([]byte(got)); plainly && !slices.Equal(back, l) {
			t.Fatalf("%q is read as\n%+v, not\n%+v", got, back, l)
		}
	}
}
