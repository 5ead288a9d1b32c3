package rule

import (
	"bytes"
	"math/rand"
	"reflect"
	"slices"
	"strings"
	"testing"

	"jalousie/api"
	"jalousie/tok"
)

// A second reading of the chapter, against which the program is held: by recursion, and with rules read of component values instead of tokens.

var closerKinds = map[int]int{api.TFunc: api.TCloseParen, api.TOpenParen: api.TCloseParen, api.TOpenSquare: api.TCloseSquare, api.TOpenCurly: api.TCloseCurly}

// plainValues: the values up to a closer, and what is left behind that; without a closer all of them.
func plainValues(l []api.Token, closer int) (all []api.Value, rest []api.Token) {
	for len(l) > 0 {
		first := l[0]
		l = l[1:]
		if closer > 0 && first.Kind == closer {
			return all, l
		}
		v := api.Value{Tok: first}
		if c := closerKinds[first.Kind]; c > 0 {
			v.Kids, l = plainValues(l, c)
		}
		all = append(all, v)
	}
	return all, nil
}

func plainFlat(l []api.Value) (all []api.Token) {
	for _, v := range l {
		all = append(append(all, v.Tok), plainFlat(v.Kids)...)
		if c := closerKinds[v.Tok.Kind]; c > 0 {
			all = append(all, api.Token{Kind: c})
		}
	}
	return all
}

func plainDepth(l []api.Value) int {
	most := 0
	for _, v := range l {
		if closerKinds[v.Tok.Kind] > 0 {
			most = max(most, 1+plainDepth(v.Kids))
		}
	}
	return most
}

func plainMay(l []api.Value) bool {
	for _, v := range l {
		if v.Tok.Kind < 1 || v.Tok.Kind > 24 || closerKinds[v.Tok.Kind] == 0 && len(v.Kids) > 0 || !plainMay(v.Kids) {
			return false
		}
	}
	return plainDepth(l) <= 64
}

func plainTrim(l []api.Value) []api.Value {
	from := slices.IndexFunc(l, func(v api.Value) bool { return v.Tok.Kind != api.TSpace })
	if from < 0 {
		return nil
	}
	var all []api.Value
	for i, v := range l {
		if i >= from && slices.ContainsFunc(l[i:], func(v api.Value) bool { return v.Tok.Kind != api.TSpace }) {
			all = append(all, v)
		}
	}
	return all
}

// plainUntil: the values ahead of the first one of these kinds; that one, if there is one; what is behind it.
func plainUntil(l []api.Value, kinds ...int) (ahead, stop, behind []api.Value) {
	for i, v := range l {
		if slices.Contains(kinds, v.Tok.Kind) {
			return l[:i], l[i : i+1], l[i+1:]
		}
	}
	return l, nil, nil
}

func plainLower(s string) string {
	return string(bytes.Map(func(c rune) rune {
		if i := strings.IndexRune("ABCDEFGHIJKLMNOPQRSTUVWXYZ", c); i >= 0 {
			return 'a' + rune(i)
		}
		return c
	}, []byte(s)))
}

func plainRules(l []api.Value, top bool, depth int) (all []api.Rule) {
	for len(l) > 0 {
		first := l[0].Tok
		if first.Kind == api.TSpace || top && (first.Kind == api.TCdo || first.Kind == api.TCdc) {
			l = l[1:]
			continue
		}
		if first.Kind == api.TAt {
			ahead, stop, behind := plainUntil(l[1:], api.TSemi, api.TOpenCurly)
			name := plainLower(first.Text)
			if len(stop) == 1 && stop[0].Tok.Kind == api.TOpenCurly && slices.Contains([]string{"media", "supports", "container"}, name) && plainDepth(ahead) <= 64 && depth <= 64 {
				all = append(all, api.Rule{Kind: api.RGroup, Name: name, Prelude: plainTrim(ahead), Rules: plainRules(stop[0].Kids, false, depth+1)})
			}
			l = behind
			continue
		}
		ahead, stop, behind := plainUntil(l, api.TOpenCurly)
		if len(stop) == 1 && plainDepth(ahead) <= 64 && depth <= 64 {
			all = append(all, api.Rule{Kind: api.RStyle, Prelude: plainTrim(ahead), Decls: plainDecls(stop[0].Kids)})
		}
		l = behind
	}
	return all
}

func plainDecls(l []api.Value) (all []api.Decl) {
	for len(l) > 0 {
		switch l[0].Tok.Kind {
		case api.TSpace, api.TSemi:
			l = l[1:]
		case api.TAt:
			_, _, l = plainUntil(l[1:], api.TSemi, api.TOpenCurly)
		default:
			var piece []api.Value
			piece, _, l = plainUntil(l, api.TSemi)
			all = append(all, plainDecl(piece)...)
		}
	}
	return all
}

func plainDecl(l []api.Value) []api.Decl {
	if l[0].Tok.Kind != api.TIdent {
		return nil
	}
	d := api.Decl{Name: l[0].Tok.Text}
	if !strings.HasPrefix(d.Name, "--") {
		d.Name = plainLower(d.Name)
	}
	rest := plainTrim(l[1:])
	if len(rest) == 0 || rest[0].Tok.Kind != api.TColon || plainDepth(rest) > 64 {
		return nil
	}
	d.Value = plainTrim(rest[1:])
	// which values are no TSpace: of these the last two are looked at
	var solid []int
	for i, v := range d.Value {
		if v.Tok.Kind != api.TSpace {
			solid = append(solid, i)
		}
	}
	if n := len(solid); n >= 2 {
		mark, word := d.Value[solid[n-2]].Tok, d.Value[solid[n-1]].Tok
		if mark.Kind == api.TDelim && mark.Text == "!" && word.Kind == api.TIdent && plainLower(word.Text) == "important" {
			d.Value, d.Important = plainTrim(d.Value[:solid[n-2]]), true
		}
	}
	return []api.Decl{d}
}

// hold: all calls against the second reading.
func hold(t *testing.T, l []api.Token) {
	t.Helper()
	before := slices.Clone(l)
	want, _ := plainValues(l, 0)
	got := Values(l)
	if !reflect.DeepEqual(got, want) {
		t.Fatalf("Values of %v: %s, not %s", l, show(got), show(want))
	}
	if d, want := Decls(l), plainDecls(want); !reflect.DeepEqual(d, want) {
		t.Fatalf("Decls of %v: %s, not %s", l, showDecls(d), showDecls(want))
	}
	if r, want := Rules(l), plainRules(want, true, 1); !reflect.DeepEqual(r, want) {
		t.Fatalf("Rules of %v: %s, not %s", l, showRules(r), showRules(want))
	}
	holdValues(t, got)
	again(t, l, got)
	if !slices.Equal(l, before) {
		t.Fatalf("%v has become %v", before, l)
	}
}

func holdValues(t *testing.T, l []api.Value) {
	t.Helper()
	if got, want := Flat(l), plainFlat(l); !slices.Equal(got, want) {
		t.Fatalf("Flat of %v: %v, not %v", l, got, want)
	}
	if May(l) != plainMay(l) {
		t.Fatalf("May of %v: %v", l, May(l))
	}
	if got, want := Trim(l), plainTrim(l); !reflect.DeepEqual(got, want) {
		t.Fatalf("Trim of %v: %v, not %v", l, got, want)
	}
	pieces := Split(l)
	rest := l
	for i, p := range pieces {
		piece, stop, behind := plainUntil(rest, api.TComma)
		if !reflect.DeepEqual(p, plainTrim(piece)) || (len(stop) == 0) != (i == len(pieces)-1) {
			t.Fatalf("Split of %v: %v", l, pieces)
		}
		rest = behind
	}
}

// again: P5.4, of tokens and their values.
func again(t *testing.T, l []api.Token, v []api.Value) {
	t.Helper()
	flat := Flat(v)
	if !reflect.DeepEqual(Values(flat), v) {
		t.Fatalf("Values of Flat of Values of %v: %v", l, Values(flat))
	}
	if len(flat) < len(l) || !slices.Equal(flat[:len(l)], l) {
		t.Fatalf("Flat of Values of %v: %v", l, flat)
	}
	for _, c := range flat[len(l):] {
		if c != (api.Token{Kind: api.TCloseParen}) && c != (api.Token{Kind: api.TCloseSquare}) && c != (api.Token{Kind: api.TCloseCurly}) {
			t.Fatalf("Flat of Values of %v: %v, and it is no closer that lacks", l, c)
		}
	}
}

var alphabet = []api.Token{
	ident("a"), one(api.TSpace), one(api.TOpenCurly), one(api.TCloseCurly), at("Media"), one(api.TSemi), one(api.TColon), delim("!"), ident("Important"), one(api.TOpenParen), one(api.TCloseParen), one(api.TCdo), one(api.TComma),
	one(api.TCdc), at("font"), {Kind: api.TFunc, Text: "f"}, one(api.TOpenSquare), one(api.TCloseSquare), ident("--X"), ident("B"), at("supports"), at("CONTAINER"), delim("#"), one(0), one(99), {Kind: api.TString, Text: "important"}, {Kind: api.TNumber, Num: api.Rat{Num: 1, Den: 2}},
}

// P5.1, P5.2, P5.4: all short lists.
func TestAllShort(t *testing.T) {
	for _, c := range []struct{ length, letters int }{{2, len(alphabet)}, {4, 13}, {5, 10}} {
		l := make([]api.Token, c.length)
		count := 1
		for range c.length {
			count *= c.letters
		}
		for n := range count {
			for i := range l {
				l[i] = alphabet[n%c.letters]
				n /= c.letters
			}
			hold(t, l)
		}
	}
}

// someTokens: random tokens, with more of those that make rules.
func someTokens(r *rand.Rand, most int) []api.Token {
	var l []api.Token
	for range r.Intn(most + 1) {
		n := len(alphabet)
		if r.Intn(3) > 0 {
			n = 12
		}
		l = append(l, alphabet[r.Intn(n)])
	}
	return l
}

func TestSomeLong(t *testing.T) {
	r := rand.New(rand.NewSource(5))
	for range 30000 {
		hold(t, someTokens(r, 60))
	}
	for range 50 {
		hold(t, someTokens(r, 5000))
	}
}

// P5.6, and all of it at depths around MaxNest.
func TestSomeDeep(t *testing.T) {
	r := rand.New(rand.NewSource(6))
	parts := [][2]string{{"@media x{", "}"}, {"a{b:(", ");c:d}"}, {"[", "]"}, {"f(", ")"}, {"@supports (x){y{}", "z{}}"}, {"{", "}"}}
	for range 800 {
		s := "a{b:c}"
		first := r.Intn(len(parts))
		for range r.Intn(140) {
			part := parts[first]
			if r.Intn(40) == 0 {
				part = parts[r.Intn(len(parts))]
			}
			s = part[0] + s
			if r.Intn(60) > 0 {
				s += part[1]
			}
		}
		l := tokens(s + "p{q:r}")
		hold(t, l)
		shallow(t, Rules(l), 1)
	}
}

// shallow: P5.6.
func shallow(t *testing.T, l []api.Rule, depth int) {
	t.Helper()
	for _, r := range l {
		if depth > 64 || plainDepth(r.Prelude) > 64 {
			t.Fatal("too deep:", depth, plainDepth(r.Prelude))
		}
		for _, d := range r.Decls {
			if plainDepth(d.Value) > 64 {
				t.Fatal("too deep:", d.Name)
			}
		}
		shallow(t, r.Rules, depth+1)
	}
}

// T3, P5.3: of every byte string reading ends, as the second reading says.
func TestAnyBytes(t *testing.T) {
	r := rand.New(rand.NewSource(7))
	words := []string{"a", " ", "{", "}", "@media ", ";", ":", "!important", "(", ")", "[", "]", "f(", "<!--", "-->", "/*", "*/", "\"", "\n", "url(", "\\", ",", "1px", "#b", "--C", "\xff", "\x00", "@supports(x)", "@container{", "é", "B"}
	for range 20000 {
		var b []byte
		for range r.Intn(40) {
			b = append(b, words[r.Intn(len(words))]...)
		}
		got, e := Sheet(b)
		want, _ := plainValues(tok.Bytes(b), 0)
		if e != api.OK || !reflect.DeepEqual(got, plainRules(want, true, 1)) {
			t.Fatalf("%q: %s %d", b, showRules(got), e)
		}
	}
	for range 200 {
		b := make([]byte, r.Intn(api.MaxText))
		r.Read(b)
		hold(t, tok.Bytes(b))
	}
}

// P5.5, the first half.
func TestNeighbourDecls(t *testing.T) {
	r := rand.New(rand.NewSource(8))
	held := 0
	for range 60000 {
		a, b := someTokens(r, 10), someTokens(r, 10)
		if len(Flat(Values(a))) > len(a) {
			continue
		}
		held++
		both := slices.Concat(a, []api.Token{one(api.TSemi)}, b)
		if got, want := Decls(both), append(Decls(a), Decls(b)...); !reflect.DeepEqual(got, want) {
			t.Fatalf("%v: %s, not %s", both, showDecls(got), showDecls(want))
		}
	}
	if held < 10000 {
		t.Error(held)
	}
}

// P5.5, the second half: the first list is cut behind the block of one of its rules.
func TestNeighbourRules(t *testing.T) {
	r := rand.New(rand.NewSource(9))
	held := 0
	for range 60000 {
		a, b := someTokens(r, 20), someTokens(r, 20)
		end := ruleEnd(a)
		if end == 0 && r.Intn(10) > 0 {
			continue
		}
		held++
		a = a[:end]
		both := slices.Concat(a, b)
		if got, want := Rules(both), append(Rules(a), Rules(b)...); !reflect.DeepEqual(got, want) {
			t.Fatalf("%v: %s, not %s", both, showRules(got), showRules(want))
		}
	}
	if held < 10000 {
		t.Error(held)
	}
}

// ruleEnd: behind the last block of a rule of the top that has its closer; 0, if there is none. (Each { of the top begins a rule's block.)
func ruleEnd(l []api.Token) int {
	v, _ := plainValues(l, 0)
	end, place := 0, 0
	for _, one := range v {
		place += len(plainFlat([]api.Value{one}))
		if one.Tok.Kind == api.TOpenCurly && place <= len(l) {
			end = place
		}
	}
	return end
}

// P5.1, raw: values as anybody makes them.
func someValues(r *rand.Rand, depth int) []api.Value {
	var l []api.Value
	for range r.Intn(5) {
		v := api.Value{Tok: alphabet[r.Intn(len(alphabet))]}
		if depth > 0 && r.Intn(2) == 0 {
			v.Kids = someValues(r, depth-1)
		}
		l = append(l, v)
	}
	return l
}

func TestRawValues(t *testing.T) {
	r := rand.New(rand.NewSource(10))
	for range 20000 {
		holdValues(t, someValues(r, 4))
	}
	var may []api.Token
	for _, one := range alphabet {
		if one.Kind > 0 && one.Kind < 25 {
			may = append(may, one)
		}
	}
	for range 500 {
		var l []api.Token
		for range r.Intn(200) {
			l = append(l, may[r.Intn(len(may))], one(api.TOpenSquare))
		}
		holdValues(t, Values(l))
	}
}
