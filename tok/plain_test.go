package tok

import (
	"math/rand"
	"regexp"
	"slices"
	"strconv"
	"strings"
	"testing"

	"jalousie/api"
	"jalousie/rat"
)

// The chapter's words as expressions: a second reading of it, against which the program is held.
const (
	blankIs  = `[\n\t ]`
	hexIs    = `\\[0-9A-Fa-f]{1,6}` + blankIs + `?`
	charIs   = `\\[^\n0-9A-Fa-f]`
	escapeIs = `(?:` + hexIs + `|` + charIs + `|\\\z)`
	firstIs  = `A-Za-z_\x{80}-\x{10FFFF}`
	nameIs   = `(?:[` + firstIs + `0-9-]|` + escapeIs + `)`
	identIs  = `(?:--|-?(?:[` + firstIs + `]|` + escapeIs + `))` + nameIs + `*`
	numberIs = `[+-]?(?:[0-9]+(?:\.[0-9]+)?|\.[0-9]+)(?:[eE][+-]?[0-9]+)?`
	inUrlIs  = `(?:[^"'()\\\n\t \x00-\x08\x0b\x0e-\x1f\x7f]|` + escapeIs + `)*`
	inTextIs = `\\\n|` + hexIs + `|` + charIs
)

func front(s string) *regexp.Regexp { return regexp.MustCompile(`\A(?:` + s + `)`) }

var (
	remarkRe  = front(`/\*(?s:.*?)(\*/|\z)`)
	blanksRe  = front(blankIs + `+`)
	doubleRe  = front(`"((?:[^"\\\n]|` + inTextIs + `)*)("|\\?\z)`)
	singleRe  = front(`'((?:[^'\\\n]|` + inTextIs + `)*)('|\\?\z)`)
	badDubRe  = front(`"(?:[^"\\\n]|` + inTextIs + `)*`)
	badSinRe  = front(`'(?:[^'\\\n]|` + inTextIs + `)*`)
	hashRe    = front(`#(` + nameIs + `+)`)
	atRe      = front(`@(` + identIs + `)`)
	numberRe  = front(`(` + numberIs + `)(?:(` + identIs + `)|(%)|)`)
	markRe    = front(`-->|<!--`)
	wordRe    = front(`(` + identIs + `)(\()?`)
	identRe   = front(identIs)
	quotedRe  = front(blankIs + `*?(?:` + blankIs + `?["'])`)
	urlRe     = front(blankIs + `*(` + inUrlIs + `)` + blankIs + `*(\)|\z)`)
	badUrlRe  = front(`(?:` + escapeIs + `|[^)])*(\)|\z)`)
	escapeRe  = regexp.MustCompile(`\\\n|` + escapeIs)
	lastEscRe = regexp.MustCompile(escapeIs + `\z`)
)

// unescape: a name, a string or a url, as it is meant.
func unescape(s string) string {
	return escapeRe.ReplaceAllStringFunc(s, func(e string) string {
		if e == "\\" {
			return "\uFFFD"
		}
		if e == "\\\n" {
			return ""
		}
		n, err := strconv.ParseInt(strings.Trim(e[1:], "\n\t "), 16, 32)
		if err != nil {
			return e[1:]
		}
		if n == 0 || n >= 0xD800 && n <= 0xDFFF || n > 0x10FFFF {
			return "\uFFFD"
		}
		return string(rune(n))
	})
}

// plainText: a string, or a bad one, at the front of s.
func plainText(s string, closed, bad *regexp.Regexp) (one api.Token, size int, shut bool) {
	if m := closed.FindStringSubmatch(s); m != nil {
		return str(unescape(m[1])), len(m[0]), m[2] == `"` || m[2] == "'"
	}
	return badS, len(bad.FindString(s)), true
}

// plainUrl: a word with its bracket, which is url, at the front of s.
func plainUrl(s, name string) (one api.Token, size int, shut bool) {
	if m := quotedRe.FindString(s); m != "" {
		return fn(name), max(0, len(m)-2), true // its last blank and its sign stay
	}
	if m := urlRe.FindStringSubmatch(s); m != nil {
		return url(unescape(m[1])), len(m[0]), m[2] == ")"
	}
	m := badUrlRe.FindStringSubmatch(s)
	return badU, len(m[0]), m[1] == ")"
}

func plainWord(s string, m []string) (one api.Token, size int, shut bool) {
	name := unescape(m[1])
	if m[2] == "" {
		return ident(name), len(m[0]), true
	}
	if strings.ToLower(name) != "url" {
		return fn(name), len(m[0]), true
	}
	one, size, shut = plainUrl(s[len(m[0]):], name)
	return one, len(m[0]) + size, shut
}

func plainNumber(m []string) api.Token {
	one := api.Token{Kind: api.TNumber}
	one.Num, one.Int, _ = rat.Decimal(m[1])
	if m[2] != "" {
		return dim(one, unescape(m[2]))
	}
	if m[3] != "" {
		return percent(one)
	}
	return one
}

// plainToken: the token at the front of s, its bytes, and whether it has its end.
func plainToken(s string) (one api.Token, size int, shut bool) {
	if m := blanksRe.FindString(s); m != "" {
		return space, len(m), true
	}
	if s[0] == '"' {
		return plainText(s, doubleRe, badDubRe)
	}
	if s[0] == '\'' {
		return plainText(s, singleRe, badSinRe)
	}
	if m := hashRe.FindStringSubmatch(s); m != nil {
		return api.Token{Kind: api.THash, Text: unescape(m[1]), Id: identRe.MatchString(m[1])}, len(m[0]), true
	}
	if m := atRe.FindStringSubmatch(s); m != nil {
		return at(unescape(m[1])), len(m[0]), true
	}
	if m := numberRe.FindStringSubmatch(s); m != nil {
		return plainNumber(m), len(m[0]), true
	}
	if m := markRe.FindString(s); m != "" {
		return map[string]api.Token{"-->": cdc, "<!--": cdo}[m], len(m), true
	}
	if m := wordRe.FindStringSubmatch(s); m != nil {
		return plainWord(s, m)
	}
	if i := strings.IndexByte(":;,[](){}", s[0]); i >= 0 {
		return api.Token{Kind: api.TColon + i}, 1, true
	}
	return delim(s[:1]), 1, true
}

// plain: the tokens of a text of characters, and whether it ends outside of strings, urls, remarks and escapes.
func plain(s string) (l []api.Token, outside bool) {
	outside = true
	for whole := s; ; {
		for m := remarkRe.FindStringSubmatch(s); m != nil; m = remarkRe.FindStringSubmatch(s) {
			s, outside = s[len(m[0]):], m[1] != ""
		}
		if s == "" {
			return l, outside && !lastEscRe.MatchString(whole)
		}
		one, size, shut := plainToken(s)
		l, s, outside = append(l, one), s[size:], shut
	}
}

// each calls f with each text of at most so many of these pieces.
func each(pieces []string, most int, f func(s string)) {
	var grow func(s string, left int)
	grow = func(s string, left int) {
		f(s)
		for _, piece := range pieces {
			if left > 0 {
				grow(s+piece, left-1)
			}
		}
	}
	grow("", most)
}

// strewn: texts of pieces that mean something, in any order.
func strewn(seed int64, count int) []string {
	pieces := strings.Split("a|e|f|F|url|URL|url(|uRl( |(|)|[|]|{|}|,|:|;|#|@|<!--|-->|<!|--|-|+|.|1|0|25|.5|1e|e3|e-|e+|%|px|\"|'|\\|\\\n|\\4|\\41 |\\0|\\d800 |\\110000|\\\"|\n| |\t|  |/*|*/|/|*|/**/|é|😀|\x00|\x01|\f|\r|\v|\x7f|!|~|=|$|\uFFFD", "|")
	source := rand.New(rand.NewSource(seed))
	var l []string
	for range count {
		var s strings.Builder
		for range source.Intn(14) {
			s.WriteString(pieces[source.Intn(len(pieces))])
		}
		l = append(l, s.String())
	}
	return l
}

func holdPlain(t *testing.T, s string) {
	t.Helper()
	want, _ := plain(s)
	if got := Tokens([]rune(s)); !slices.Equal(got, want) {
		t.Fatalf("%q:\n got %v\nwant %v", s, got, want)
	}
}

// P3.1
func TestPairsOfAllSigns(t *testing.T) {
	for a := rune(0); a <= 0x81; a++ {
		for b := rune(0); b <= 0x81; b++ {
			holdPlain(t, string(a)+string(b))
			holdPlain(t, string(a)+string(b)+"a")
			holdPlain(t, "url("+string(a)+string(b))
		}
	}
}

// P3.1: all short texts of the signs that hang on one another.
func TestShortTexts(t *testing.T) {
	for _, x := range []struct {
		ahead  string
		pieces string
		most   int
	}{
		{"", "a 1 - + . \\ \n # @ / * ( %", 4},
		{"", "1 0 . e + - %", 6},
		{"", "- > < ! a \\ \n", 6},
		{"", "/ * a", 8},
		{"", "\" ' \\ \n a 4 ;", 6},
		{"\\", "0 1 4 D 8 f g \t \n", 5},
		{"\"\\", "0 4 D 8 \" \n", 6},
		{"url(", "a ) ( \" ' \\ \n 4 \x01", 5},
		{"url( ", "a ) \" \\ \n \t", 5},
		{"1e", "a 1 - + . e \\ %", 5},
	} {
		pieces := append(strings.Split(x.pieces, " "), " ")
		each(pieces, x.most, func(s string) { holdPlain(t, x.ahead+s) })
	}
}

// P3.1
func TestStrewnTexts(t *testing.T) {
	for _, s := range strewn(3, 60000) {
		holdPlain(t, s)
	}
}

// P3.3
func TestStartsPlainly(t *testing.T) {
	number, escape := front(`[+-]?\.?[0-9]`), front(`\\(?:[^\n]|\z)`)
	each(strings.Split("a|-|+|.|1|\\|\n|é| |_", "|"), 4, func(s string) {
		gotA, gotB, gotC := Starts([]rune(s))
		if gotA != identRe.MatchString(s) || gotB != number.MatchString(s) || gotC != escape.MatchString(s) {
			t.Fatalf("%q: %v %v %v", s, gotA, gotB, gotC)
		}
	})
}

// P3.4: how many there are, and which stand side by side.
func TestCountAndSpaces(t *testing.T) {
	for _, s := range strewn(4, 30000) {
		l := []rune(s)
		told := Tokens(l)
		if len(told) > len(l) {
			t.Fatalf("%q: %d tokens", s, len(told))
		}
		for i := range told {
			if i > 0 && told[i] == space && told[i-1] == space && !strings.Contains(s, "/*") {
				t.Fatalf("%q: two spaces, %v", s, told)
			}
		}
	}
}

// P3.4: a semicolon parts two texts, if the first ends outside of everything.
func TestSemicolonParts(t *testing.T) {
	first, second := strewn(5, 20000), strewn(6, 20000)
	first = append(first, "a", "a,", "(", "\"a\"", "url(a)", "url(a b)", "/* a */", "-", "1e", "#", "@", "<!-", "/", "\"a\n", "\\41 x", "a:", "{}")
	second = append(second, ";", "", "/*", "a", ")", "\"", "41", "*/", "-->", " ", "\n", "\\", "e3", "(", ":b", "px", "#a")
	parted := 0
	for i, a := range first {
		b := second[i]
		if _, outside := plain(a); !outside {
			continue
		}
		parted++
		want := append(append(Tokens([]rune(a)), semi), Tokens([]rune(b))...)
		if got := Tokens([]rune(a + ";" + b)); !slices.Equal(got, want) {
			t.Fatalf("%q and %q:\n got %v\nwant %v", a, b, got, want)
		}
	}
	if parted < 1000 {
		t.Errorf("only %d texts end outside", parted)
	}
}

// P3.4: a text whose last token is a bracket, TComma, TSemi or TColon, and which ends with that token, ends outside.
func TestBracketsEndOutside(t *testing.T) {
	for _, a := range strewn(7, 20000) {
		for _, c := range []string{",", ";", ":", "(", ")", "[", "]", "{", "}"} {
			l := Tokens([]rune(a + c))
			if len(l) != len(Tokens([]rune(a)))+1 || l[len(l)-1].Kind < api.TColon {
				continue // it has become part of something else
			}
			want := append(l, semi, ident("b"))
			if got := Tokens([]rune(a + c + ";b")); !slices.Equal(got, want) {
				t.Fatalf("%q: %v, not %v", a+c, got, want)
			}
		}
	}
}

// P3.5
func TestNumMayBeAndNamesAreNotEmpty(t *testing.T) {
	named := []int{api.TDim, api.TIdent, api.TFunc, api.TAt, api.THash}
	texts := append(strewn(8, 30000), "1e99", "1e-99px", "99999999999999999999%", "-0", "#\\", "@\\", "\\", "-\\", "1\\", "\\(")
	for _, s := range texts {
		for _, one := range Tokens([]rune(s)) {
			if !rat.May(one.Num) {
				t.Fatalf("%q: %v may not be", s, one.Num)
			}
			if one.Text == "" && slices.Contains(named, one.Kind) {
				t.Fatalf("%q: a token of the kind %d without a name", s, one.Kind)
			}
		}
	}
}

// R3: any numbers at all end, and count as their characters.
func TestAnyNumbers(t *testing.T) {
	source := rand.New(rand.NewSource(9))
	for range 20000 {
		l := make([]rune, source.Intn(12))
		clean := make([]rune, len(l))
		for i := range l {
			l[i] = rune(source.Uint32()) >> source.Intn(32)
			clean[i] = l[i]
			if clean[i] < 0 || clean[i] > 0x10FFFF || clean[i] >= 0xD800 && clean[i] <= 0xDFFF {
				clean[i] = 0xFFFD
			}
		}
		want, _ := plain(string(clean))
		if got := Tokens(l); !slices.Equal(got, want) {
			t.Fatalf("%x: %v, not %v", l, got, want)
		}
	}
}
