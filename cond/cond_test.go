package cond

import (
	"errors"
	"math"
	"reflect"
	"slices"
	"strings"
	"testing"
	"unicode"

	"jalousie/api"
	"jalousie/rule"
	"jalousie/spell"
	"jalousie/tok"
)

func values(s string) []api.Value { return rule.Values(tok.Bytes([]byte(s))) }

func frac(n, d int64) api.Rat { return api.Rat{Num: n, Den: d} }

func leafOf(l api.Leaf) api.Cond { return api.Cond{Kind: api.KLeaf, Leaf: l} }

func named(s string) api.Cond { return leafOf(api.Leaf{Kind: api.LBool, Name: s}) }

func fixed(x int) api.Cond { return leafOf(api.Leaf{Kind: api.LTruth, Truth: x}) }

// unknown: what nobody understands.
func unknown() api.Cond { return leafOf(api.Leaf{}) }

// of: a condition of this kind with these kids.
func of(kind int, kids ...api.Cond) api.Cond { return api.Cond{Kind: kind, Kids: kids} }

func and(kids ...api.Cond) api.Cond { return of(api.KAnd, kids...) }
func or(kids ...api.Cond) api.Cond  { return of(api.KOr, kids...) }
func not(kid api.Cond) api.Cond     { return of(api.KNot, kid) }

func num(n int64) api.Expr { return api.Expr{Kind: api.ENum, Num: frac(n, 1)} }

// sum: an expression with kids.
func sum(kids ...api.Expr) api.Expr { return api.Expr{Kind: api.ESum, Kids: kids} }

// nest: n conditions in one another, the innermost this.
func nest(n int, c api.Cond, kinds ...int) api.Cond {
	for i := range n - 1 {
		c = of(kinds[i%len(kinds)], c)
	}
	return c
}

// leaf takes parentheses with one identifier in them.
func leaf(v api.Value) (api.Cond, bool) {
	if v.Tok.Kind != api.TOpenParen || len(v.Kids) != 1 || v.Kids[0].Tok.Kind != api.TIdent {
		return api.Cond{}, false
	}
	return named(v.Kids[0].Tok.Text), true
}

// reads: Parse of the text tells this, which may be.
func reads(t *testing.T, s string, want api.Cond) {
	t.Helper()
	c, e := Parse(values(s), leaf)
	if e != api.OK || !reflect.DeepEqual(c, want) || !May(c) {
		t.Errorf("%q: %+v %d, not %+v", s, c, e, want)
	}
}

func refused(t *testing.T, what any, l []api.Value, want api.Errno) {
	t.Helper()
	if c, e := Parse(l, leaf); e != want || !reflect.DeepEqual(c, api.Cond{}) {
		t.Errorf("%v: %+v %d, not %d", what, c, e, want)
	}
}

// ask: by its name: t is true, f false, u unknown.
func ask(l api.Leaf) int {
	return strings.Index("fut", l.Name[:1])
}

// may: whether c may be; one that may not has no leaves, and is unknown whatever is told of them.
func may(t *testing.T, what any, c api.Cond, want bool) {
	t.Helper()
	if got := May(c); got != want {
		t.Errorf("%v: %v", what, got)
	}
	if want {
		return
	}
	for x := range 3 {
		asked := 0
		if got := Eval(c, func(api.Leaf) int { asked++; return x }); got != api.TUnknown || asked > 0 {
			t.Errorf("%v: %d, asked %d", what, got, asked)
		}
	}
	if l := Leaves(c); l != nil {
		t.Errorf("%v: %+v", what, l)
	}
}

// The chapter's table.
func TestExamples(t *testing.T) {
	a, b, c := named("a"), named("b"), named("c")
	reads(t, "(a)", a)
	reads(t, "not (a)", not(a))
	reads(t, "(a) and (b) AND (c)", and(a, b, c))
	reads(t, "((a) or (b))", or(a, b))
	for _, s := range []string{"(a) and (b) or (c)", "not", "(a) (b)", "a", "", "not not (a)"} {
		refused(t, s, values(s), api.ErrSyntax)
	}
	reads(t, "(a b)", unknown())
	reads(t, "f(x)", unknown())
	reads(t, "(not (a b))", not(unknown()))
	if got := []int{And(1, 2), Or(1, 2), Not(1), And(7)}; !slices.Equal(got, []int{1, 2, 1, 1}) {
		t.Error(got)
	}
	half, one := frac(1, 2), frac(1, 1)
	if got := []int{Cmp(api.OpLe, half, half), Cmp(api.OpLt, api.Rat{}, one), Cmp(9, one, one)}; !slices.Equal(got, []int{2, 1, 1}) {
		t.Error(got)
	}
}

// P15.1: of none, of one, of two, of three, in every order.
func TestTruths(t *testing.T) {
	if And() != api.TTrue || Or() != api.TFalse || And([]int{}...) != 2 || Or([]int{}...) != 0 {
		t.Error(And(), Or())
	}
	for x := range 3 {
		if And(x) != x || Or(x) != x || Not(x) != []int{2, 1, 0}[x] {
			t.Error(x, And(x), Or(x), Not(x))
		}
		for y := range 3 {
			for z := range 3 {
				l := []int{x, y, z}
				if And(l...) != slices.Min(l) || Or(l...) != slices.Max(l) || And(x, y) != min(x, y) || Or(x, y) != max(x, y) {
					t.Error(l)
				}
				if !slices.Equal(l, []int{x, y, z}) {
					t.Error("changed", l)
				}
			}
		}
	}
}

// P15.1: numbers that are no truth.
func TestNoTruths(t *testing.T) {
	for _, x := range []int{-1, 3, 7, -2, 256, 1 << 32, 1<<32 + 2, math.MaxInt, math.MinInt} {
		if And(x) != 1 || Or(x) != 1 || Not(x) != 1 {
			t.Error(x, And(x), Or(x), Not(x))
		}
		for y := range 3 {
			if And(x, y) != min(1, y) || And(y, x, x) != min(1, y) || Or(x, y) != max(1, y) || Or(x, y, x) != max(1, y) {
				t.Error(x, y)
			}
		}
	}
}

// P15.2: parts, joined by words in any letters, with and without white space.
func TestParse(t *testing.T) {
	a, b, c, d := named("a"), named("b"), named("c"), named("d")
	reads(t, " (a) ", a)
	reads(t, "/**/ (a) /**/ /**/", a)
	reads(t, "((((a))))", a)
	reads(t, "( (a) )", a)
	for _, s := range []string{"not (a)", "NOT (a)", "nOt/**/(a)", " not  (a) ", "not /**/ /**/ (a)", "(not (a))", "( NoT (a) )", `n\6ft (a)`} {
		reads(t, s, not(a))
	}
	for _, s := range []string{"(a) and (b)", "(a)AND (b)", "(a)and/**/(b)", " (a)\nAnd\t(b) ", "(a) /**/ and /**/ /**/ (b)", "((a) and (b))", "((a)) and ((b))", `(a) aN\64  (b)`} {
		reads(t, s, and(a, b))
	}
	for _, s := range []string{"(a) or (b)", "(a)OR (b)", "(a)oR/**/(b)", " (a)\nOr\t(b) ", "((a) or (b))", "( (a) or ((b)) )"} {
		reads(t, s, or(a, b))
	}
	reads(t, "(a) and (b) and (c) AND (d)", and(a, b, c, d))
	reads(t, "(a) or (b) OR (c) or (d)", or(a, b, c, d))
	reads(t, "(a) and (a) and (a)", and(a, a, a))
	reads(t, "((a) and (b)) or (c)", or(and(a, b), c))
	reads(t, "((a) and (b)) and (c)", and(and(a, b), c))
	reads(t, "(a) or ((b) or (c))", or(a, or(b, c)))
	reads(t, "not (not (a))", not(not(a)))
	reads(t, "not ((a) and (not ((b) or (c))))", not(and(a, not(or(b, c)))))
	reads(t, "(not (a)) and (not (b))", and(not(a), not(b)))
	reads(t, "(not) and (and) and (or)", and(named("not"), named("and"), named("or")))
	many := slices.Repeat([]api.Cond{a, b}, 500)
	reads(t, strings.TrimSuffix(strings.Repeat("(a) and (b) and ", 500), " and "), and(many...))
	reads(t, strings.TrimSuffix(strings.Repeat("(a) or (b) or ", 500), " or "), or(many...))
}

// P15.2: anything else.
func TestRefused(t *testing.T) {
	for _, s := range []string{
		"", " ", "/**/", " /**/ /**/ ",
		"not", "and", "or", "NOT ", " and ", "a", "1", "'a'", "#a", "@a", "url(a)", "*", ",", ";", ")", "]", "}", "[a]", "{a}", "[(a)]", "{(a)}",
		"not not (a)", "not and (a)", "not or (a)", "not a", "not [a]", "not (a) (b)", "not (a) and (b)", "not (a) or (b)", "not (a) not (b)", "not (a) b", "not (a),", "not ;(a)", "not(a) and", "(a) not", "(a) not (b)",
		"and (a)", "or (a)", "and and", "(a) and", "(a) or", "(a) and ", "(a) and and (b)", "(a) or or (b)", "(a) and or (b)", "(a) or and (b)", "(a) and not (b)", "(a) or not (b)", "(a) and b", "(a) and [b]", "(a) or {b}", "(a) and (b) and", "(a) or (b) or", "(a) and (b) (c)", "(a) or (b) (c)", "(a) and (b) c",
		"(a) and (b) or (c)", "(a) or (b) and (c)", "(a) and (b) and (c) or (d)", "(a) or (b) or (c) and (d)", "(a) and (b) not (c)", "(a) (b)", "(a)(b)", "(a) f(b)", "f(a) (b)", "(a)and(b)", "(a)or(b)", "(a) and(b)", "f(a)f(b)",
		"(a),", ",(a)", "(a), (b)", "(a);", "(a) && (b)", "(a) & (b)", "(a) xor (b)", "(a) 'and' (b)", "(a) #and (b)", "(a) @and (b)", "(a) an (b)", "(a) ands (b)", "(a) nand (b)", "nots (a)", "no (a)", "-not (a)", "not! (a)", "!(a)", "(a) o (b)", "(a) oor (b)", "(a))", "(a)]", "(a) } ", "<!-- (a)", "(a) -->", "(a) 1 (b)", "1 (a)", "(a) and 1 (b)", "(a) aｎd (b)",
	} {
		refused(t, s, values(s), api.ErrSyntax)
	}
	for _, kind := range []int{api.TString, api.THash, api.TAt, api.TDelim, api.TUrl, api.TDim} {
		for _, s := range []string{"not (a)", "(a) and (b)", "(a) or (b)"} {
			l := values(s)
			l[slices.IndexFunc(l, func(v api.Value) bool { return v.Tok.Kind == api.TIdent })].Tok.Kind = kind
			refused(t, kind, l, api.ErrSyntax)
		}
	}
	for _, kind := range []int{api.TOpenSquare, api.TOpenCurly} {
		for i := range 3 {
			l := values("(a) and (b) and (c)")
			l[i*4].Tok.Kind = kind
			refused(t, kind, l, api.ErrSyntax)
		}
	}
}

// P15.2: the words are alike by letters, which is by A to Z alone.
func TestWordLetters(t *testing.T) {
	for word, text := range map[string]string{"not": "not (a)", "and": "(a) and (b)", "or": "(a) or (b)"} {
		l := values(text)
		name := &l[slices.IndexFunc(l, func(v api.Value) bool { return v.Tok.Kind == api.TIdent })].Tok.Text
		for at := range len(word) {
			for c := range rune(unicode.MaxRune) + 1 {
				if c > 0x250 && unicode.SimpleFold(c) == c {
					continue
				}
				*name = word[:at] + string(c) + word[at+1:]
				_, e := Parse(l, leaf)
				if good := c == rune(word[at]) || c == rune(word[at])-'a'+'A'; (e == api.OK) != good {
					t.Errorf("%q: %d", *name, e)
				}
			}
		}
		for _, other := range []string{"", word + " ", " " + word, word + "\x00", word[1:], word + word, word[1:] + "\xf4", word + "\xff", word + "\u0301", "-" + word} {
			*name = other
			refused(t, other, l, api.ErrSyntax)
		}
	}
}

// P15.2: without white space between them, too, parts and words are such.
func TestNoSpace(t *testing.T) {
	l := slices.DeleteFunc(values("(a) and (b) and (c)"), func(v api.Value) bool { return v.Tok.Kind == api.TSpace })
	if c, e := Parse(l, leaf); e != api.OK || !reflect.DeepEqual(c, and(named("a"), named("b"), named("c"))) {
		t.Error(c, e)
	}
}

// P15.2: what is not understood.
func TestUnknown(t *testing.T) {
	a := named("a")
	for _, s := range []string{"()", "( )", "(a b)", "(1)", "(,)", "(a;)", "(a:b)", "([a])", "({(a)})", "(\"\n)", "(url(a b))", "((a) (b))", "((a) and (b) or (c))", "((a) and)", "(and (a))", "(not not (a))", "(not a)", "f()", "f(a)", "f((a))", "not(a)", "and((a))", "(f(a) b)", "( (a) b)", "((a) ,)"} {
		reads(t, s, unknown())
		reads(t, "not "+s, not(unknown()))
		reads(t, "("+s+")", unknown())
		reads(t, s+" and (a) and "+s, and(unknown(), a, unknown()))
		reads(t, "(a) or "+s, or(a, unknown()))
		reads(t, "not ((not "+s+") or (a))", not(or(not(unknown()), a)))
	}
	reads(t, "(((a) and) or (a))", or(unknown(), a))
	reads(t, "(a) and ((a b) or ((c) d))", and(a, or(unknown(), unknown())))
	reads(t, "((a) and f(x)) or (f(not (a)))", or(and(a, unknown()), unknown()))
	reads(t, "(a", a)
	reads(t, "(not (a", not(a))
}

// P15.2: values that may not be; that is asked ahead of all else.
func TestMayNotBe(t *testing.T) {
	for _, bad := range []api.Value{{}, {Tok: api.Token{Kind: 25}}, {Tok: api.Token{Kind: -1}}, {Tok: api.Token{Kind: api.TIdent, Text: "a"}, Kids: values("a")}, {Tok: api.Token{Kind: api.TSpace}, Kids: values("a")}, {Tok: api.Token{Kind: api.TOpenParen}, Kids: []api.Value{{}}}} {
		asked := 0
		for _, l := range [][]api.Value{{bad}, append(values("(a) "), bad), append(values("(a) (b) "), bad), append([]api.Value{bad}, values(" (a)")...), {{Tok: api.Token{Kind: api.TFunc}, Kids: []api.Value{bad}}}} {
			refused(t, bad, l, api.ErrArg)
			_, e := Parse(l, func(api.Value) (api.Cond, bool) { asked++; return api.Cond{}, true })
			_, none := Parse(l, nil)
			if e != api.ErrArg || none != api.ErrArg || asked > 0 {
				t.Error(bad, e, none, asked)
			}
		}
	}
	boxes := func(n int, s string) []api.Value { return values(strings.Repeat("(", n) + s + strings.Repeat(")", n)) }
	reads(t, strings.Repeat("(", api.MaxNest)+"a"+strings.Repeat(")", api.MaxNest), named("a"))
	refused(t, "deep", boxes(api.MaxNest+1, "a"), api.ErrArg)
	refused(t, "deep", boxes(api.MaxNest, "f("), api.ErrArg)
	deep, e := Parse(values(strings.Repeat("(not ", api.MaxNest-1)+"(a)"), leaf)
	if e != api.OK || !reflect.DeepEqual(deep, nest(api.MaxNest, named("a"), api.KNot)) {
		t.Error(deep, e)
	}
	if c, e := Parse([]api.Value{{Tok: api.Token{Kind: api.TFunc}, Kids: []api.Value{}}}, leaf); e != api.OK || !reflect.DeepEqual(c, unknown()) {
		t.Error(c, e)
	}
}

// P15.2: without a leaf no part is one.
func TestNilLeaf(t *testing.T) {
	for s, want := range map[string]api.Cond{"(a)": unknown(), "f(x)": unknown(), "not (a)": not(unknown()), "(a) and (b)": and(unknown(), unknown()), "((a) or f(b))": or(unknown(), unknown()), "()": unknown()} {
		if c, e := Parse(values(s), nil); e != api.OK || !reflect.DeepEqual(c, want) {
			t.Errorf("%q: %+v %d", s, c, e)
		}
	}
	for _, s := range []string{"", "not", "(a) (b)", "(a) and (b) or (c)"} {
		if c, e := Parse(values(s), nil); e != api.ErrSyntax || !reflect.DeepEqual(c, api.Cond{}) {
			t.Errorf("%q: %+v %d", s, c, e)
		}
	}
}

// P15.2: what leaf tells is taken as it is, of functions too, and only if it tells true.
func TestLeafTells(t *testing.T) {
	some := []api.Cond{{}, {Kind: 9}, and(), not(unknown()), or(named("x"), fixed(7)), {Kind: api.KNot, Kids: []api.Cond{}}, {Kind: api.KLeaf, Kids: []api.Cond{{}}, Leaf: api.Leaf{Kind: -1, Truth: 9, Name: "n", Op: 6, Expr: sum(num(1), sum(num(2))), Word: "w", Value: "v", Any: true}}, leafOf(api.Leaf{Kind: api.LCmp, Expr: api.Expr{Kids: []api.Expr{}}}), nest(341, unknown(), api.KNot), nest(1<<16-1, named("x"), api.KAnd, api.KNot)}
	for i, c := range some {
		always := func(api.Value) (api.Cond, bool) { return c, true }
		for s, want := range map[string]api.Cond{"(a)": c, "f(a)": c, "()": c, "((a) and (b))": c, "(a) or f()": or(c, c), "not f()": not(c), " not ( )": not(c)} {
			got, e := Parse(values(s), always)
			if e != api.OK || !Same(got, want) {
				t.Errorf("%d, %q: %d", i, s, e)
			}
			if i < len(some)-1 && !reflect.DeepEqual(got, want) {
				t.Errorf("%d, %q: %+v", i, s, got)
			}
		}
		if got, e := Parse(values("(a) and"), always); e != api.ErrSyntax || !reflect.DeepEqual(got, api.Cond{}) {
			t.Errorf("%d: %+v %d", i, got, e)
		}
		never := func(api.Value) (api.Cond, bool) { return c, false }
		if got, e := Parse(values("(a) and (not f())"), never); e != api.OK || !reflect.DeepEqual(got, and(unknown(), not(unknown()))) {
			t.Errorf("%d: %+v %d", i, got, e)
		}
	}
	// A part that holds a condition may be a leaf itself.
	outer := func(v api.Value) (api.Cond, bool) { return named("n"), len(v.Kids) > 1 }
	if got, e := Parse(values("((a) and (b)) or ((a))"), outer); e != api.OK || !reflect.DeepEqual(got, or(named("n"), unknown())) {
		t.Error(got, e)
	}
}

// asked: the parts of which leaf is asked, in that order.
func asked(t *testing.T, s string, leaf func(api.Value) (api.Cond, bool)) string {
	t.Helper()
	var all []string
	Parse(values(s), func(v api.Value) (api.Cond, bool) {
		text, e := spell.Tokens(rule.Flat([]api.Value{v}))
		if e != api.OK {
			t.Error(e)
		}
		all = append(all, text)
		return leaf(v)
	})
	return strings.Join(all, "|")
}

// P15.2: leaf is asked once of each part that is come to, from the left, and ahead of what stands in it.
func TestAsked(t *testing.T) {
	for s, want := range map[string]string{
		"(a)": "(a)", "not (a)": "(a)", "f(x)": "f(x)", "((a))": "((a))|(a)", "(a b)": "(a b)", "()": "()",
		"(a) and (b) and (c)": "(a)|(b)|(c)", "(a) or f(b)": "(a)|f(b)", "(a) and (a)": "(a)|(a)",
		"(a) and ((b) or (c d)) and (e)": "(a)|((b) or (c d))|(b)|(c d)|(e)",
		"((not (a)) or (b))":             "((not (a)) or (b))|(not (a))|(a)|(b)",
		// In what holds no condition no part is come to.
		"f((a))": "f((a))", "([(a)])": "([(a)])", "(b (a))": "(b (a))",
		// What is barred is not come to, nor what stands behind it.
		"": "", "not": "", "a (b)": "", "not not (a)": "", "[a] (b)": "", "and (a)": "", "(a) (b)": "(a)", "not (a) and (b)": "(a)", "(a) and": "(a)", "(a) and not (b)": "(a)", "(a) and (b) or (c)": "(a)|(b)", "(a) or (b) and (c)": "(a)|(b)", "(a), (b)": "(a)", "(a) and [b] and (c)": "(a)",
		"((a) (b)) and (c)":                       "((a) (b))|(a)|(c)",
		"((a) and (b) or (c)) or ((d) and)":       "((a) and (b) or (c))|(a)|(b)|((d) and)|(d)",
		"not ((a) or ((b) (c))) or (d)":           "((a) or ((b) (c)))|(a)|((b) (c))|(b)",
		"((a) and ((b) and ((c) and not))) (d) {": "((a) and ((b) and ((c) and not)))|(a)|((b) and ((c) and not))|(b)|((c) and not)|(c)",
	} {
		if got := asked(t, s, leaf); got != want {
			t.Errorf("%q: %q, not %q", s, got, want)
		}
	}
	all := func(api.Value) (api.Cond, bool) { return unknown(), true }
	if got := asked(t, "((a) or (b)) and f((a))", all); got != "((a) or (b))|f((a))" {
		t.Error(got)
	}
}

// P15.2: a panic of leaf is its own business: it goes on as it is, from however deep.
func TestLeafPanics(t *testing.T) {
	var own any = errors.New("own")
	caught := func(s string, panics func()) (v any) {
		defer func() { v = recover() }()
		c, e := Parse(values(s), func(v api.Value) (api.Cond, bool) {
			if v.Tok.Text == "x" {
				panics()
			}
			return leaf(v)
		})
		t.Errorf("%q: %+v %d", s, c, e)
		return nil
	}
	for _, s := range []string{"x()", "not x()", "(a) and x()", "(not (not x()))", "((a) (b)) and ((a) or (not x()))", "(a) or x() and", "x() (a)", "(a) and ((b) and x())"} {
		for _, v := range []any{own, "barred", "text", 7, []int{1}, nil} {
			got := caught(s, func() { panic(v) })
			if v == nil && got == nil || v != nil && !reflect.DeepEqual(got, v) {
				t.Errorf("%q: %v, not %v", s, got, v)
			}
		}
		if _, ok := caught(s, func() { var l []int; l[len(s)]++ }).(interface{ RuntimeError() }); !ok {
			t.Errorf("%q: no error of the language", s)
		}
	}
	// What is barred ahead of it keeps it from being asked.
	refused(t, "barred", values("(a) (b) x()"), api.ErrSyntax)
	if c, e := Parse(values("(a) and (b) or x()"), func(v api.Value) (api.Cond, bool) {
		if v.Tok.Text == "x" {
			panic("asked")
		}
		return leaf(v)
	}); e != api.ErrSyntax || !reflect.DeepEqual(c, api.Cond{}) {
		t.Error(c, e)
	}
	// A leaf may read conditions itself, some of which are barred.
	inner := func(v api.Value) (api.Cond, bool) {
		c, e := Parse(v.Kids, leaf)
		return c, e == api.OK
	}
	if c, e := Parse(values("f((a) or (b)) and f((a) (b)) and ((a))"), inner); e != api.OK || !reflect.DeepEqual(c, and(or(named("a"), named("b")), unknown(), named("a"))) {
		t.Error(c, e)
	}
}

// P15.3: each kind of condition, with each number of kids.
func TestMayKinds(t *testing.T) {
	a := named("a")
	for kind := -2; kind <= 8; kind++ {
		for n := range 5 {
			c := of(kind, slices.Repeat([]api.Cond{a}, n)...)
			want := (kind == api.KAnd || kind == api.KOr) && n > 0 || kind == api.KNot && n == 1
			if kind == api.KLeaf && n == 0 {
				want = true // its leaf is the zero one
			}
			may(t, []int{kind, n}, c, want)
			for _, l := range []api.Leaf{a.Leaf, {Kind: api.LTruth}, {Kind: api.LTruth, Truth: 2}, {Kind: 7}} {
				c.Leaf = l
				may(t, []int{kind, n, l.Kind}, c, kind == api.KLeaf && n == 0 && l.Kind != 7)
			}
		}
	}
	may(t, "zero", api.Cond{}, false)
	for _, bad := range []api.Cond{{}, of(9, a), and(), not(or()), {Kind: api.KNot, Kids: []api.Cond{a, a}}, fixed(3), {Kind: api.KLeaf, Kids: []api.Cond{a}}} {
		may(t, bad, bad, false)
		may(t, bad, not(bad), false)
		may(t, bad, and(a, bad), false)
		may(t, bad, or(bad, a), false)
		may(t, bad, and(a, or(a, not(not(and(a, bad, a))), a)), false)
	}
	for _, kind := range []int{api.KAnd, api.KOr, api.KNot} {
		for i := range reflect.TypeFor[api.Leaf]().NumField() {
			c := of(kind, a)
			c.Leaf = withField(api.Leaf{}, i)
			may(t, []int{kind, i}, c, false)
		}
	}
	// An expression without kids is zero however its list was made.
	empty := not(a)
	empty.Leaf.Expr.Kids = []api.Expr{}
	may(t, "empty", empty, true)
	may(t, "empty", api.Cond{Kind: api.KLeaf, Kids: []api.Cond{}, Leaf: a.Leaf}, true)
}

// withField: l with another value at this place of its fields.
func withField(l api.Leaf, i int) api.Leaf {
	switch f := reflect.ValueOf(&l).Elem().Field(i); f.Kind() {
	case reflect.Int:
		f.SetInt(f.Int() + 1)
	case reflect.String:
		f.SetString(f.String() + "x")
	case reflect.Bool:
		f.SetBool(!f.Bool())
	default:
		l.Expr = sum(l.Expr, num(1))
	}
	return l
}

// leaves: one or more of each kind that may be.
func leaves() []api.Leaf {
	return []api.Leaf{
		{},
		{Kind: api.LTruth}, {Kind: api.LTruth, Truth: 1}, {Kind: api.LTruth, Truth: 2},
		{Kind: api.LType, Name: "print"},
		{Kind: api.LBool, Name: "width"}, {Kind: api.LBool, Name: "\x00"},
		{Kind: api.LCmp, Name: "width", Op: 1, Expr: num(1)}, {Kind: api.LCmp, Name: "x", Op: 5, Expr: sum(num(1), api.Expr{Kind: api.ENum, Unit: api.UCqh})},
		{Kind: api.LWord, Name: "hover", Word: "none"}, {Kind: api.LWord, Name: "hover"},
		{Kind: api.LStyle, Name: "--a", Value: "b"}, {Kind: api.LStyle, Name: "--a"}, {Kind: api.LStyle, Name: "--a", Any: true},
	}
}

// P15.3: each kind of leaf with each field that it may have, and with each that it may not.
func TestMayFields(t *testing.T) {
	has := map[int]string{api.LUnknown: "", api.LTruth: "Truth", api.LType: "Name", api.LBool: "Name", api.LCmp: "Name Op Expr", api.LWord: "Name Word", api.LStyle: "Name Value Any"}
	seen := map[int]bool{}
	for _, l := range leaves() {
		seen[l.Kind] = true
		may(t, l, leafOf(l), true)
		for i := range reflect.TypeFor[api.Leaf]().NumField() {
			name := reflect.TypeFor[api.Leaf]().Field(i).Name
			if name == "Kind" || strings.Contains(has[l.Kind], name) {
				continue
			}
			may(t, []any{l, name}, leafOf(withField(l, i)), false)
			may(t, []any{l, name}, not(leafOf(withField(l, i))), false)
		}
		unnamed := l
		unnamed.Name = ""
		may(t, l, leafOf(unnamed), !strings.Contains(has[l.Kind], "Name"))
		other := l
		for _, other.Kind = range []int{-1, 7, 8, 255, 256, 1 << 32, math.MinInt, math.MaxInt} {
			may(t, other.Kind, leafOf(other), false)
		}
	}
	if len(seen) != 7 {
		t.Error(seen)
	}
}

// P15.3: what stands in the fields.
func TestMayContents(t *testing.T) {
	for x := -2; x < 6; x++ {
		may(t, x, fixed(x), x >= 0 && x <= 2)
		may(t, x, leafOf(api.Leaf{Kind: api.LCmp, Name: "a", Op: x, Expr: num(1)}), x >= api.OpLt && x <= api.OpGt)
	}
	for _, x := range []int{6, 255, 257, 1<<32 + 1, math.MinInt, math.MaxInt} {
		may(t, x, fixed(x), false)
		may(t, x, leafOf(api.Leaf{Kind: api.LCmp, Name: "a", Op: x, Expr: num(1)}), false)
	}
	deep := num(1)
	for range api.MaxExpr - 1 {
		deep = sum(deep)
	}
	for i, c := range []struct {
		e  api.Expr
		ok bool
	}{{num(1), true}, {sum(num(1), num(2)), true}, {api.Expr{Kind: api.ENum}, true}, {deep, true}, {sum(deep), false}, {api.Expr{}, false}, {api.Expr{Kind: 9}, false}, {sum(), false}, {api.Expr{Kind: api.ENum, Num: frac(2, 4)}, false}, {api.Expr{Kind: api.ENum, Unit: 8}, false}, {sum(num(1), sum()), false}} {
		may(t, i, leafOf(api.Leaf{Kind: api.LCmp, Name: "a", Op: 1, Expr: c.e}), c.ok)
		may(t, i, nest(api.MaxExpr, leafOf(api.Leaf{Kind: api.LCmp, Name: "a", Op: 1, Expr: c.e}), api.KNot), c.ok)
		may(t, i, leafOf(api.Leaf{Kind: api.LBool, Name: "a", Expr: c.e}), reflect.DeepEqual(c.e, api.Expr{}))
	}
	may(t, "any", leafOf(api.Leaf{Kind: api.LStyle, Name: "a", Any: true}), true)
	may(t, "any and a value", leafOf(api.Leaf{Kind: api.LStyle, Name: "a", Value: "b", Any: true}), false)
	// Each field of an expression alone makes it one.
	for i, e := range []api.Expr{{Kind: 1}, {Num: frac(0, 1)}, {Num: frac(1, 0)}, {Unit: 1}, {Kids: []api.Expr{{}}}} {
		may(t, i, leafOf(api.Leaf{Expr: e}), false)
	}
}

// P15.3: how many conditions stand in one another.
func TestMayDeep(t *testing.T) {
	for _, kinds := range [][]int{{api.KAnd}, {api.KOr}, {api.KNot}, {api.KAnd, api.KNot, api.KOr}} {
		for _, c := range []api.Cond{named("t"), unknown(), leafOf(leaves()[8])} {
			may(t, kinds, nest(1, c, kinds...), true)
			may(t, kinds, nest(api.MaxExpr-1, c, kinds...), true)
			may(t, kinds, nest(api.MaxExpr, c, kinds...), true)
			may(t, kinds, nest(api.MaxExpr+1, c, kinds...), false)
			may(t, kinds, nest(api.MaxExpr+2, c, kinds...), false)
			may(t, kinds, and(named("a"), nest(api.MaxExpr, c, kinds...)), false)
			may(t, kinds, or(nest(api.MaxExpr-1, c, kinds...), nest(api.MaxExpr-1, c, kinds...)), true)
		}
	}
	deep := nest(api.MaxExpr, named("t"), api.KNot)
	if x := Eval(deep, ask); x != api.TFalse || len(Leaves(deep)) != 1 {
		t.Error(x, Leaves(deep))
	}
	far := nest(1<<16, named("t"), api.KNot)
	may(t, "far", far, false)
}

// P15.3: the leaves, from the left, all kinds of them.
func TestLeaves(t *testing.T) {
	var kids []api.Cond
	for _, l := range leaves() {
		kids = append(kids, leafOf(l))
		if got := Leaves(leafOf(l)); !reflect.DeepEqual(got, []api.Leaf{l}) {
			t.Errorf("%+v: %+v", l, got)
		}
	}
	if got := Leaves(and(kids...)); !reflect.DeepEqual(got, leaves()) {
		t.Errorf("%+v", got)
	}
	c := or(not(and(kids[:5]...)), kids[5], and(not(not(or(kids[6:9]...))), or(kids[9:]...)))
	if got := Leaves(c); !reflect.DeepEqual(got, leaves()) {
		t.Errorf("%+v", got)
	}
	a, b := named("a").Leaf, named("b").Leaf
	if got := Leaves(and(named("a"), or(named("b"), named("a")), named("b"))); !reflect.DeepEqual(got, []api.Leaf{a, b, a, b}) {
		t.Errorf("%+v", got)
	}
	if got := Leaves(and(named("a"), fixed(3))); got != nil {
		t.Errorf("%+v", got)
	}
}

// P15.4: each kind of condition, each kind of leaf.
func TestEval(t *testing.T) {
	for s, want := range map[string]int{
		"(t)": 2, "(f)": 0, "(u)": 1, "not (t)": 0, "not (f)": 2, "not (u)": 1,
		"(t) and (t)": 2, "(t) and (u)": 1, "(f) and (u)": 0, "(u) and (t) and (f)": 0, "(t) or (u)": 2, "(f) or (u)": 1, "(f) or (f)": 0, "(u) or (f) or (t)": 2,
		"f(x)": 1, "not (a b)": 1, "(t) and f(x)": 1, "(f) and f(x)": 0, "(t) or f(x)": 2, "(f) or f(x)": 1,
		"not ((f) or (t))": 0, "not ((t) and (not (u)))": 1, "((t) or (u)) and (not (f))": 2,
	} {
		c, e := Parse(values(s), leaf)
		if got := Eval(c, ask); got != want || e != api.OK {
			t.Errorf("%q: %d %d, not %d", s, got, e, want)
		}
	}
	for x := range 3 {
		for y := range 3 {
			if Eval(and(fixed(x), fixed(y)), nil) != And(x, y) || Eval(or(fixed(x), fixed(y)), nil) != Or(x, y) || Eval(not(fixed(x)), nil) != Not(x) {
				t.Error(x, y)
			}
		}
	}
}

// P15.4: f is asked of leaves alone, and not of those whose truth is settled.
func TestEvalAsks(t *testing.T) {
	for _, l := range leaves() {
		for x := -3; x < 6; x++ {
			var got []api.Leaf
			told := Eval(leafOf(l), func(l api.Leaf) int { got = append(got, l); return x })
			want := x
			switch {
			case l.Kind == api.LTruth:
				want = l.Truth
			case l.Kind == api.LUnknown || x < 0 || x > 2:
				want = api.TUnknown
			}
			if told != want {
				t.Errorf("%+v, %d: %d", l, x, told)
			}
			if settled := l.Kind == api.LTruth || l.Kind == api.LUnknown; settled && got != nil || !settled && !reflect.DeepEqual(got, []api.Leaf{l}) {
				t.Errorf("%+v: asked %+v", l, got)
			}
		}
		want := api.TUnknown
		if l.Kind == api.LTruth {
			want = l.Truth
		}
		if got := Eval(leafOf(l), nil); got != want {
			t.Errorf("%+v: %d", l, got)
		}
	}
	c := or(fixed(2), named("f"), not(and(named("f"), unknown(), named("t"))), named("u"))
	names := ""
	if x := Eval(c, func(l api.Leaf) int { names += l.Name; return ask(l) }); x != 2 || names != "fftu" {
		t.Error(x, names)
	}
	if x := Eval(and(named("t"), not(named("f"))), nil); x != api.TUnknown {
		t.Error(x)
	}
	for _, x := range []int{-1, 3, math.MaxInt, math.MinInt, 1 << 32} {
		no := func(api.Leaf) int { return x }
		if Eval(named("a"), no) != 1 || Eval(not(named("a")), no) != 1 || Eval(and(named("a"), fixed(0)), no) != 0 || Eval(or(named("a"), fixed(0)), no) != 1 {
			t.Error(x)
		}
	}
}

// P15.4, R3: an f that panics tells no truth; its neighbours stay.
func TestEvalPanics(t *testing.T) {
	for _, v := range []any{"x", errors.New("x"), 7, nil, []int{1}} {
		f := func(l api.Leaf) int {
			if l.Name == "p" {
				panic(v)
			}
			return ask(l)
		}
		p := named("p")
		for i, c := range []struct {
			c    api.Cond
			want int
		}{{p, 1}, {not(p), 1}, {and(p, named("t")), 1}, {and(p, named("f")), 0}, {or(p, named("t")), 2}, {or(named("f"), p), 1}, {or(p, not(and(p, named("f"))), p), 2}} {
			if got := Eval(c.c, f); got != c.want {
				t.Errorf("%v, %d: %d", v, i, got)
			}
		}
	}
	if x := Eval(named("a"), func(api.Leaf) int { var l []int; return l[0] }); x != api.TUnknown {
		t.Error(x)
	}
}

// P15.5: each operator, of each order.
func TestCmp(t *testing.T) {
	half, one := frac(1, 2), frac(1, 1)
	for op, want := range map[int][3]int{api.OpLt: {2, 0, 0}, api.OpLe: {2, 2, 0}, api.OpEq: {0, 2, 0}, api.OpGe: {0, 2, 2}, api.OpGt: {0, 0, 2}, 0: {1, 1, 1}, 6: {1, 1, 1}, -1: {1, 1, 1}, 9: {1, 1, 1}, math.MaxInt: {1, 1, 1}, math.MinInt: {1, 1, 1}, 1<<32 + 1: {1, 1, 1}} {
		for _, p := range [][2]api.Rat{{half, one}, {frac(-1, 1), half}, {frac(1, 3), half}, {frac(math.MaxInt64-1, math.MaxInt64), one}, {frac(-math.MaxInt64, 1), frac(math.MaxInt64, 1)}, {frac(0, 1), frac(1, math.MaxInt64)}, {frac(-1, 2), frac(-1, 3)}} {
			if got := [3]int{Cmp(op, p[0], p[1]), Cmp(op, p[0], p[0]), Cmp(op, p[1], p[0])}; got != want {
				t.Error(op, p, got)
			}
		}
		for _, bad := range []api.Rat{{}, frac(2, 4), frac(1, 0), frac(-1, 0), frac(0, 2), frac(0, -1), frac(1, -1), frac(-1, -2), frac(math.MinInt64, 1), frac(3, 3), frac(math.MaxInt64, math.MaxInt64), frac(1, math.MinInt64)} {
			if Cmp(op, bad, one) != 1 || Cmp(op, half, bad) != 1 || Cmp(op, bad, bad) != 1 || Cmp(op, bad, api.Rat{}) != 1 {
				t.Error(op, bad)
			}
		}
	}
}

// P15.6: unlike in each field of each part.
func TestSame(t *testing.T) {
	for i, l := range leaves() {
		for k, m := range leaves() {
			if Same(leafOf(l), leafOf(m)) != (i == k) {
				t.Errorf("%+v %+v", l, m)
			}
		}
	}
	full := func() api.Cond {
		return api.Cond{Kind: 7, Kids: []api.Cond{named("a"), not(named("b"))}, Leaf: api.Leaf{Kind: 9, Truth: -4, Name: "n", Op: 8, Expr: sum(num(1), api.Expr{Kind: 3, Num: frac(2, 4), Unit: 9, Kids: []api.Expr{{}}}), Word: "w", Value: "v", Any: true}}
	}
	changes := []func(c *api.Cond){
		func(c *api.Cond) { c.Kind++ },
		func(c *api.Cond) { c.Kids = nil },
		func(c *api.Cond) { c.Kids = c.Kids[:1] },
		func(c *api.Cond) { c.Kids = append(c.Kids, api.Cond{}) },
		func(c *api.Cond) { c.Kids[0], c.Kids[1] = c.Kids[1], c.Kids[0] },
		func(c *api.Cond) { c.Kids[0].Kind++ },
		func(c *api.Cond) { c.Kids[1].Kids[0].Leaf.Name = "B" },
		func(c *api.Cond) { c.Kids[1].Leaf.Truth++ },
		func(c *api.Cond) { c.Kids[1].Kids[0].Kids = []api.Cond{{}} },
		func(c *api.Cond) { c.Leaf.Expr.Kind++ },
		func(c *api.Cond) { c.Leaf.Expr.Num.Den++ },
		func(c *api.Cond) { c.Leaf.Expr.Unit++ },
		func(c *api.Cond) { c.Leaf.Expr.Kids = nil },
		func(c *api.Cond) { c.Leaf.Expr.Kids = c.Leaf.Expr.Kids[:1] },
		func(c *api.Cond) { c.Leaf.Expr.Kids[0].Num.Num++ },
		func(c *api.Cond) { c.Leaf.Expr.Kids[1].Num = frac(1, 2) },
		func(c *api.Cond) { c.Leaf.Expr.Kids[1].Unit-- },
		func(c *api.Cond) { c.Leaf.Expr.Kids[1].Kids[0].Kind++ },
		func(c *api.Cond) { c.Leaf.Expr.Kids[1].Kids = append(c.Leaf.Expr.Kids[1].Kids, api.Expr{}) },
	}
	for i := range reflect.TypeFor[api.Leaf]().NumField() {
		changes = append(changes, func(c *api.Cond) { c.Leaf = withField(c.Leaf, i) })
	}
	for i, change := range changes {
		a, b := full(), full()
		if !Same(a, b) || !Same(b, a) {
			t.Error("unlike")
		}
		change(&b)
		if Same(a, b) || Same(b, a) || !Same(b, b) {
			t.Errorf("%d: %+v", i, b)
		}
		if Same(not(and(named("x"), a)), not(and(named("x"), b))) || Same(a, not(a)) {
			t.Errorf("%d within", i)
		}
	}
	if !Same(api.Cond{}, api.Cond{}) || Same(named("a"), named("A")) || Same(and(named("a")), or(named("a"))) || Same(and(named("a"), named("b")), and(named("b"), named("a"))) || Same(named("a"), and(named("a"))) {
		t.Error("small ones")
	}
}

// P15.6: nil and empty lists are one.
func TestSameEmpty(t *testing.T) {
	a, b := named("a"), named("a")
	a.Kids, a.Leaf.Expr.Kids = []api.Cond{}, make([]api.Expr, 0, 3)
	if !Same(a, b) || !Same(b, a) || !Same(not(a), not(b)) || !May(a) || len(Leaves(a)) != 1 || Eval(a, func(api.Leaf) int { return 2 }) != 2 {
		t.Error(a)
	}
}
