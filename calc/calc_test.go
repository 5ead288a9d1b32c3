package calc

import (
	"math"
	"reflect"
	"strings"
	"testing"

	"jalousie/api"
	"jalousie/rule"
	"jalousie/tok"
)

func values(s string) []api.Value { return rule.Values(tok.Bytes([]byte(s))) }

func frac(n, d int64, unit int) api.Expr {
	return api.Expr{Kind: api.ENum, Num: api.Rat{Num: n, Den: d}, Unit: unit}
}

func num(n int64) api.Expr    { return frac(n, 1, api.UNone) }
func length(n int64) api.Expr { return frac(n, 1, api.UPx) }

// of: an expression of this kind with these kids.
func of(kind int, kids ...api.Expr) api.Expr { return api.Expr{Kind: kind, Kids: kids} }

func neg(e api.Expr) api.Expr { return of(api.ENeg, e) }
func inv(e api.Expr) api.Expr { return of(api.EInv, e) }

// nest: n expressions in one another, the innermost this, the others of the kind.
func nest(n, kind int, e api.Expr) api.Expr {
	for range n - 1 {
		if kind == api.EClamp {
			e = of(kind, num(1), e, num(2))
			continue
		}
		e = of(kind, e)
	}
	return e
}

// token: a list of one token.
func token(t api.Token) []api.Value { return []api.Value{{Tok: t}} }

// told: Parse of l tells this, which may be.
func told(t *testing.T, what any, l []api.Value, want api.Expr) {
	t.Helper()
	got, e := Parse(l)
	if e != api.OK || !reflect.DeepEqual(got, want) || !May(got) {
		t.Errorf("%v: %+v %d, not %+v", what, got, e, want)
	}
}

// reads: Parse of the text tells this, which has a text of which it is read again.
func reads(t *testing.T, s string, want api.Expr) {
	t.Helper()
	told(t, s, values(s), want)
	text, e := Text(want)
	if e != api.OK {
		t.Errorf("%q: %d", s, e)
	}
	told(t, []string{s, text}, values(text), want)
}

func refused(t *testing.T, what any, l []api.Value, want api.Errno) {
	t.Helper()
	if got, e := Parse(l); e != want || !reflect.DeepEqual(got, api.Expr{}) {
		t.Errorf("%v: %+v %d, not %d", what, got, e, want)
	}
}

func may(t *testing.T, what any, e api.Expr, want bool) {
	t.Helper()
	if got := May(e); got != want {
		t.Errorf("%v: %v", what, got)
	}
	if want {
		return
	}
	if kind, why := Kind(e); kind != 0 || why != api.ErrArg {
		t.Errorf("%v: kind %d %d", what, kind, why)
	}
	if text, why := Text(e); text != "" || why != api.ErrArg {
		t.Errorf("%v: text %q %d", what, text, why)
	}
}

// kind: what Kind answers; 0: ErrType.
func kind(t *testing.T, what any, e api.Expr, want int) {
	t.Helper()
	why := api.OK
	if want == 0 {
		why = api.ErrType
	}
	if got, e := Kind(e); got != want || e != why {
		t.Errorf("%v: %d %d, not %d", what, got, e, want)
	}
}

// writes: Text tells this, of which the expression is read again.
func writes(t *testing.T, e api.Expr, want string) {
	t.Helper()
	if got, why := Text(e); got != want || why != api.OK {
		t.Errorf("%q %d, not %q", got, why, want)
	}
	told(t, want, values(want), e)
}

// textless: it may be, but has no text.
func textless(t *testing.T, what any, e api.Expr) {
	t.Helper()
	may(t, what, e, true)
	if got, why := Text(e); got != "" || why != api.ErrArg {
		t.Errorf("%v: %q %d", what, got, why)
	}
}

// The chapter's table.
func TestExamples(t *testing.T) {
	reads(t, "1.5em", frac(3, 2, api.UEm))
	reads(t, "2", num(2))
	reads(t, "3PX", length(3))
	sum := of(api.ESum, length(1), of(api.EProd, frac(2, 1, api.UEm), num(3)), neg(length(4)))
	reads(t, "calc(1px + 2em * 3 - (4px))", sum)
	kind(t, "a sum", sum, api.KLength)
	least := of(api.EMin, length(1), of(api.EProd, frac(2, 1, api.UVw), inv(num(4))))
	reads(t, "min(1px, calc(2vw / 4))", least)
	kind(t, "a least", least, api.KLength)
	reads(t, "clamp(1px, 2em, 3rem)", of(api.EClamp, length(1), frac(2, 1, api.UEm), frac(3, 1, api.URem)))
	refused(t, "two pieces", values("clamp(1px, 2px)"), api.ErrSyntax)
	for _, s := range []string{"calc(1px * 2px)", "calc(1 / 2px)", "calc(1 + 1px)"} {
		e, why := Parse(values(s))
		if why != api.OK {
			t.Errorf("%q: %d", s, why)
		}
		kind(t, s, e, 0)
	}
	for _, s := range []string{"calc(1px+2px)", "calc(1px +2px)", "calc()", "1s", "(1px)"} {
		refused(t, s, values(s), api.ErrSyntax)
	}
	writes(t, of(api.EProd, of(api.ESum, length(1), length(2)), num(3)), "calc((1px + 2px) * 3)")
}

// P11.1, P11.2: each unit, in small letters, in capitals and in both.
func TestUnits(t *testing.T) {
	for s, u := range map[string]int{"px": api.UPx, "em": api.UEm, "rem": api.URem, "vw": api.UVw, "vh": api.UVh, "cqw": api.UCqw, "cqh": api.UCqh} {
		mixed := strings.ToUpper(s[:1]) + s[1:]
		for _, name := range []string{s, strings.ToUpper(s), mixed} {
			if Unit(name) != u {
				t.Errorf("%q: %d, not %d", name, Unit(name), u)
			}
			reads(t, "7"+name, frac(7, 1, u))
			reads(t, "-0.25"+name, frac(-1, 4, u))
			told(t, name, token(api.Token{Kind: api.TDim, Text: name, Num: api.Rat{Num: 1, Den: 3}}), frac(1, 3, u))
		}
		writes(t, frac(-15, 2, u), "-7.5"+s)
	}
	for _, s := range []string{"", "s", "p", "x", "pxx", "px ", " px", "ppx", "ex", "e", "m", "vmin", "vi", "cq", "cqi", "cqmin", "in", "%", "p\x18", "pX\x00", "ｐx", "Px\u0301", "re\u217f", "\xffpx", "0px", "@x", "p8", "[m", "{m", "\u212a", strings.Repeat("px", 1<<20)} {
		if Unit(s) != 0 {
			t.Errorf("%q: %d", s, Unit(s))
		}
		refused(t, s, token(api.Token{Kind: api.TDim, Text: s, Num: api.Rat{Num: 1, Den: 1}}), api.ErrSyntax)
	}
}

// P11.1: numbers; one that may not be counts as over.
func TestNumbers(t *testing.T) {
	for s, want := range map[string]api.Expr{
		"0": num(0), "-0": num(0), "+7": num(7), ".5": frac(1, 2, 0), "1e3": num(1000), "1e-2px": frac(1, 100, api.UPx), "123456789012345678": num(123456789012345678), "1234567890123456789": frac(0, 0, 0), "1e99": frac(0, 0, 0), "-1e99em": frac(0, 0, api.UEm), "1e18rem": frac(1000000000000000000, 1, api.URem), "0.000000000000000001vw": frac(1, 1000000000000000000, api.UVw), "1e-19cqh": frac(0, 0, api.UCqh),
	} {
		reads(t, s, want)
		reads(t, "calc("+s+")", want)
	}
	for _, r := range []api.Rat{{Num: 2, Den: 4}, {Num: 1}, {Num: 1, Den: -1}, {Num: 0, Den: 2}, {Num: math.MinInt64, Den: 1}, {Num: -1}, {Num: 3, Den: 3}} {
		told(t, r, token(api.Token{Kind: api.TNumber, Num: r}), frac(0, 0, 0))
		told(t, r, token(api.Token{Kind: api.TDim, Text: "Vh", Num: r, Int: true}), frac(0, 0, api.UVh))
		l := values("min(1, 2 * 3)")
		l[0].Kids[0].Tok.Num = r
		l[0].Kids[len(l[0].Kids)-1].Tok.Num = r
		told(t, r, l, of(api.EMin, frac(0, 0, 0), of(api.EProd, num(2), frac(0, 0, 0))))
	}
	for _, r := range []api.Rat{{Num: 1, Den: 3}, {Num: math.MaxInt64, Den: 1}, {Num: -math.MaxInt64, Den: math.MaxInt64 - 1}, {}} {
		told(t, r, token(api.Token{Kind: api.TNumber, Num: r, Text: "px", Id: true}), frac(r.Num, r.Den, 0))
	}
}

// P11.1: l is one component value, TSpace around it left out.
func TestAlone(t *testing.T) {
	for _, s := range []string{"1px", " 1px", "1px ", "  1px /**/ ", "\n/**/\t1px", "calc(1px)", " calc( 1px ) ", "calc(/**/ /**/ 1px /**/ )", "calc((1px))", "calc( ( ( 1px ) ) )", "calc(calc(1px))", "CALC(cAlC(1PX)"} {
		reads(t, s, length(1))
	}
	for _, s := range []string{"", " ", "1 2", "1 1px", "1px 1", "1,2", "1px,", ",1px", "1 + 2", "1*2", "-(1px)", "calc(1px) calc(2px)", "1px;", "1px)", "a", "px", "50%", "'1px'", "#a", "+", "[1px]", "{1px}", "(1px)", "((1px))", "@calc", "calc", "calc (1px)", "url(1px)", "U+1", "<!--"} {
		refused(t, s, values(s), api.ErrSyntax)
	}
}

// P11.1: values that may not be; that is asked ahead of all else.
func TestMayNotBe(t *testing.T) {
	one := api.Token{Kind: api.TNumber, Num: api.Rat{Num: 1, Den: 1}}
	refused(t, "no kind", []api.Value{{}}, api.ErrArg)
	refused(t, "kind 25", token(api.Token{Kind: 25}), api.ErrArg)
	refused(t, "behind", []api.Value{{Tok: one}, {Tok: api.Token{Kind: -1}}}, api.ErrArg)
	refused(t, "Kids of a number", []api.Value{{Tok: one, Kids: token(one)}}, api.ErrArg)
	refused(t, "within", []api.Value{{Tok: api.Token{Kind: api.TFunc, Text: "f"}, Kids: []api.Value{{}}}}, api.ErrArg)
	told(t, "empty Kids", []api.Value{{Tok: one, Kids: []api.Value{}}}, num(1))
	for _, kind := range []int{api.TFunc, api.TOpenParen} {
		l := token(one)
		for range api.MaxNest {
			l = []api.Value{{Tok: api.Token{Kind: kind, Text: "calc"}, Kids: l}}
		}
		told(t, kind, []api.Value{{Tok: api.Token{Kind: api.TFunc, Text: "max"}, Kids: l[0].Kids}}, of(api.EMax, num(1)))
		refused(t, kind, []api.Value{{Tok: api.Token{Kind: api.TFunc, Text: "max"}, Kids: l}}, api.ErrArg)
	}
}

// P11.1: operators of sums have TSpace at both sides.
func TestSums(t *testing.T) {
	reads(t, "calc(1 + 2)", of(api.ESum, num(1), num(2)))
	reads(t, "calc(1 - 2)", of(api.ESum, num(1), neg(num(2))))
	reads(t, "calc( 1  /**/ +/**/\t2 )", of(api.ESum, num(1), num(2)))
	reads(t, "calc(1 + 2 - 3 - -4 + +5)", of(api.ESum, num(1), num(2), neg(num(3)), neg(num(-4)), num(5)))
	reads(t, "calc(1 - (2 + 3) - (4))", of(api.ESum, num(1), neg(of(api.ESum, num(2), num(3))), neg(num(4))))
	reads(t, "calc((1 + 2) + 3)", of(api.ESum, of(api.ESum, num(1), num(2)), num(3)))
	reads(t, "calc(calc(1 - 2) + calc(3 * 4))", of(api.ESum, of(api.ESum, num(1), neg(num(2))), of(api.EProd, num(3), num(4))))
	reads(t, "calc(1 * 2 - 3 / 4 + 5)", of(api.ESum, of(api.EProd, num(1), num(2)), neg(of(api.EProd, num(3), inv(num(4)))), num(5)))
	for _, op := range []string{"+", "-"} {
		for _, s := range []string{"1" + op + "2", "1" + op + " 2", "1 " + op + "2", "1" + op + "(2)", "1 " + op + "(2)", "1/**/" + op + "/**/2", "1/**/" + op + " 2", "(1) " + op + "(2)", "(1)" + op + " 2", "1 " + op, "1 " + op + " ", op + " 1", " " + op + " 1", op, "1 " + op + " " + op + " 2", "1 " + op + " * 2", "1 * " + op + " 2", "1 " + op + " , 2", "-(1)", op + "(1)"} {
			refused(t, s, values("calc("+s+")"), api.ErrSyntax)
			refused(t, s, values("min(1, "+s+")"), api.ErrSyntax)
			refused(t, s, values("max("+s+", 1)"), api.ErrSyntax)
			refused(t, s, values("calc(("+s+"))"), api.ErrSyntax)
		}
	}
	for _, op := range []string{"", "++", "+ ", "*+", "~", "−", "."} {
		l := values("calc(1 + 2)")
		l[0].Kids[2].Tok.Text = op
		refused(t, op, l, api.ErrSyntax)
	}
	for _, kind := range []int{api.TIdent, api.TString, api.THash, api.TNumber, api.TDim, api.TColon} {
		l := values("calc(1 + 2)")
		l[0].Kids[2].Tok.Kind = kind
		refused(t, kind, l, api.ErrSyntax)
	}
}

// P11.1: operators of products have TSpace at each side or not.
func TestProducts(t *testing.T) {
	for _, ahead := range []string{"", " ", " /**/ ", "/**/"} {
		for _, behind := range []string{"", " ", " /**/ ", "/**/"} {
			reads(t, "calc(1"+ahead+"*"+behind+"2)", of(api.EProd, num(1), num(2)))
			reads(t, "min(1"+ahead+"/"+behind+"2)", of(api.EMin, of(api.EProd, num(1), inv(num(2)))))
			reads(t, "calc(("+ahead+"1)"+behind+"*("+ahead+"2"+behind+")"+ahead+"/"+behind+"-3)", of(api.EProd, num(1), num(2), inv(num(-3))))
		}
	}
	reads(t, "calc(1 * 2 * 3 / 4 / 5 * 6)", of(api.EProd, num(1), num(2), num(3), inv(num(4)), inv(num(5)), num(6)))
	reads(t, "calc(1*(2*3))", of(api.EProd, num(1), of(api.EProd, num(2), num(3))))
	reads(t, "calc((1*2)*3)", of(api.EProd, of(api.EProd, num(1), num(2)), num(3)))
	reads(t, "calc(1/(2/3))", of(api.EProd, num(1), inv(of(api.EProd, num(2), inv(num(3))))))
	reads(t, "calc(1/min(2, 3))", of(api.EProd, num(1), inv(of(api.EMin, num(2), num(3)))))
	reads(t, "calc((1 - 2)*(3 + 4))", of(api.EProd, of(api.ESum, num(1), neg(num(2))), of(api.ESum, num(3), num(4))))
	for _, op := range []string{"*", "/"} {
		for _, s := range []string{"1" + op, "1 " + op + " ", op + "1", " " + op + " 1", op, "1" + op + op + "2", "1" + op + " " + op + "2", "1" + op + ",2", "1 2" + op + "3", "1" + op + "2 3", "1" + op + "a", "1" + op + "[2]", "1" + op + "()", "1" + op + "1s", "1" + op + "50%"} {
			refused(t, s, values("calc("+s+")"), api.ErrSyntax)
			refused(t, s, values("clamp(1,"+s+",3)"), api.ErrSyntax)
		}
	}
}

// P11.1: the four functions, in any letters, with each number of pieces.
func TestFunctions(t *testing.T) {
	for _, c := range []struct {
		name        string
		kind        int
		least, most int
	}{{"calc", 0, 1, 1}, {"min", api.EMin, 1, 9}, {"max", api.EMax, 1, 9}, {"clamp", api.EClamp, 3, 3}} {
		for _, name := range []string{c.name, strings.ToUpper(c.name), strings.ToUpper(c.name[:1]) + c.name[1:]} {
			refused(t, name, values(name+"()"), api.ErrSyntax)
			refused(t, name, values(name+"( )"), api.ErrSyntax)
			refused(t, name, values(name+"(,)"), api.ErrSyntax)
			refused(t, name, values(name+"(a, b, c)"), api.ErrSyntax)
			var kids []api.Expr
			text := ""
			for n := range 6 {
				kids = append(kids, length(int64(n)))
				text += string(rune('0'+n)) + "px"
				want := of(c.kind, kids...)
				if c.kind == 0 {
					want = kids[0]
				}
				if n+1 < c.least || n+1 > c.most {
					refused(t, text, values(name+"("+text+")"), api.ErrSyntax)
				} else {
					reads(t, name+"("+text+")", want)
					reads(t, " "+name+"( "+text+"/**/ ) ", want)
				}
				refused(t, text, values(name+"("+text+",)"), api.ErrSyntax)
				refused(t, text, values(name+"(,"+text+")"), api.ErrSyntax)
				refused(t, text, values(name+"("+text+" 1)"), api.ErrSyntax)
				refused(t, text, values(name+"("+text+";)"), api.ErrSyntax)
				text += []string{",", " ,", ", ", " , ", "/**/,/**/"}[n%5]
			}
		}
	}
	for _, name := range []string{"", "cal", "calcc", "mi", "m", "minn", "maxi", "sum", "clam", "clamps", "-calc", "var", "attr", "mın", "calc ", "ma\u0078\u0301", "m\u0131n", "MA\u0425"} {
		l := values("min(1,2,3)")
		l[0].Tok.Text = name
		refused(t, name, l, api.ErrSyntax)
	}
	reads(t, "min(1 + 2, 3 * 4, (5), calc(6), max(7))", of(api.EMin, of(api.ESum, num(1), num(2)), of(api.EProd, num(3), num(4)), num(5), num(6), of(api.EMax, num(7))))
	reads(t, "clamp(1px - 2px, 3px/4, min(5px))", of(api.EClamp, of(api.ESum, length(1), neg(length(2))), of(api.EProd, length(3), inv(num(4))), of(api.EMin, length(5))))
}

// P11.1: parentheses in one another; they hold one sum.
func TestParentheses(t *testing.T) {
	reads(t, "calc(((((1 + 2)))))", of(api.ESum, num(1), num(2)))
	reads(t, "calc((( 1 - ((2) * (3)) )))", of(api.ESum, num(1), neg(of(api.EProd, num(2), num(3)))))
	reads(t, "max((1), ( 2 ), ((3 + 4) * 5))", of(api.EMax, num(1), num(2), of(api.EProd, of(api.ESum, num(3), num(4)), num(5))))
	for _, s := range []string{"calc(())", "calc(( ))", "calc((1)(2))", "calc((1, 2))", "calc((1) (2))", "calc([1])", "calc({1})", "calc((1]))", "calc((1;))", "calc((a))", "calc((1 2))", "min((1, 2))"} {
		refused(t, s, values(s), api.ErrSyntax)
	}
}

// P11.2: each kind with each number of kids.
func TestMayKids(t *testing.T) {
	for kind := -1; kind <= 10; kind++ {
		for n := range 6 {
			kids := make([]api.Expr, n)
			for i := range kids {
				kids[i] = num(int64(i))
			}
			want := false
			switch kind {
			case api.ENum: // over
				want = n == 0
			case api.ESum, api.EProd, api.EMin, api.EMax:
				want = n >= 1
			case api.ENeg, api.EInv:
				want = n == 1
			case api.EClamp:
				want = n == 3
			}
			may(t, []int{kind, n}, of(kind, kids...), want)
			if !want {
				continue
			}
			for i := range kids {
				kept := kids[i]
				kids[i] = api.Expr{}
				may(t, []int{kind, n, i}, of(kind, kids...), false)
				kids[i] = of(api.EMin)
				may(t, []int{kind, n, i}, of(kind, kids...), false)
				kids[i] = of(api.EMin, length(1))
				may(t, []int{kind, n, i}, of(kind, kids...), true)
				kids[i] = kept
			}
		}
	}
	may(t, "zero", api.Expr{}, false)
	may(t, "no kind", of(math.MaxInt, num(1)), false)
	may(t, "no kind", of(math.MinInt, num(1)), false)
	may(t, "no kind", of(1<<32+api.ESum, num(1)), false)
}

// P11.2: Num and Unit of ENum, and of the others.
func TestMayFields(t *testing.T) {
	for _, r := range []api.Rat{{}, {Den: 1}, {Num: 1, Den: 1}, {Num: -3, Den: 2}, {Num: math.MaxInt64, Den: 2}, {Num: 1, Den: math.MaxInt64}} {
		may(t, r, frac(r.Num, r.Den, 0), true)
		may(t, r, frac(r.Num, r.Den, api.UCqh), true)
	}
	for _, r := range []api.Rat{{Num: 1}, {Num: -1}, {Num: 2, Den: 4}, {Den: 2}, {Num: 1, Den: -1}, {Num: math.MinInt64, Den: 1}, {Num: math.MinInt64, Den: 3}} {
		may(t, r, frac(r.Num, r.Den, 0), false)
		may(t, r, of(api.ESum, num(1), frac(r.Num, r.Den, 0)), false)
	}
	for _, unit := range []int{-1, 8, 9, 1 << 32, math.MaxInt, math.MinInt} {
		may(t, unit, frac(1, 1, unit), false)
		may(t, unit, frac(0, 0, unit), false)
	}
	for unit := api.UNone; unit <= api.UCqh; unit++ {
		may(t, unit, frac(1, 1, unit), true)
	}
	may(t, "kids", api.Expr{Kind: api.ENum, Num: api.Rat{Num: 1, Den: 1}, Kids: []api.Expr{num(1)}}, false)
	may(t, "empty kids", api.Expr{Kind: api.ENum, Num: api.Rat{Num: 1, Den: 1}, Kids: []api.Expr{}}, true)
	for kind := api.ESum; kind <= api.EClamp; kind++ {
		e := nest(2, kind, num(1))
		may(t, kind, e, true)
		for _, r := range []api.Rat{{Num: 1, Den: 1}, {Den: 1}, {Num: 1}} {
			e.Num = r
			may(t, []any{kind, r}, e, false)
		}
		e.Num = api.Rat{}
		for _, unit := range []int{api.UPx, api.UCqh, -1, 8} {
			e.Unit = unit
			may(t, []int{kind, unit}, e, false)
		}
	}
}

// P11.2, P11.3, P11.4: 340 in one another may be, 341 may not.
func TestDepth(t *testing.T) {
	for kind := api.ESum; kind <= api.EClamp; kind++ {
		may(t, kind, nest(340, kind, num(1)), true)
		may(t, kind, nest(341, kind, num(1)), false)
		may(t, kind, nest(342, kind, num(1)), false)
		deep := of(api.EMax, num(1), num(2), nest(339, kind, num(1)))
		may(t, kind, deep, true)
		may(t, kind, of(api.EMax, num(1), deep, num(2)), false)
	}
	deep, text := length(1), "1px"
	for range 169 {
		deep = of(api.ESum, length(1), neg(deep))
	}
	for i := range 169 {
		text = "1px - " + text
		if i < 168 {
			text = "(" + text + ")"
		}
	}
	if got, e := Text(deep); got != "calc("+text+")" || e != api.OK {
		t.Errorf("%q %d", got, e)
	}
	may(t, "339", deep, true)
	may(t, "340", of(api.EMin, deep), true)
	if got, e := Text(of(api.EMin, deep)); got != "min("+text+")" || e != api.OK {
		t.Errorf("%q %d", got, e)
	}
	may(t, "341", of(api.EMax, of(api.EMin, deep)), false)
	if k, e := Kind(of(api.EMin, deep)); k != api.KLength || e != api.OK {
		t.Errorf("%d %d", k, e)
	}
}

// P11.1, P11.5: the deepest that a text gives is less deep than may be.
func TestDeepTexts(t *testing.T) {
	for _, c := range []struct {
		open, shut string
		deep       int
	}{{"min(1 - 1 * 1 / ", ")", 321}, {"calc(1 - 1 * 1 / (", "))", 129}, {"clamp(1, 2 - 3 / ", ", 4)", 321}, {"calc(", ")", 1}} {
		n := 64
		if strings.Contains(c.open, "((") || strings.HasSuffix(c.open, "/ (") {
			n = 32
		}
		e, why := Parse(values(strings.Repeat(c.open, n) + "1" + strings.Repeat(c.shut, n)))
		if why != api.OK || depth(e) != c.deep {
			t.Errorf("%s: %d %d", c.open, depth(e), why)
		}
		text, why := Text(e)
		if why != api.OK {
			t.Errorf("%s: %d", c.open, why)
		}
		told(t, c.open, values(text), e)
		refused(t, c.open, values(strings.Repeat(c.open, n+1)+"1"+strings.Repeat(c.shut, n+1)), api.ErrArg)
	}
}

func depth(e api.Expr) int {
	d := 0
	for _, k := range e.Kids {
		d = max(d, depth(k))
	}
	return d + 1
}

// P11.3: kinds.
func TestKind(t *testing.T) {
	n, l, bad := num(2), length(3), of(api.ESum, num(1), length(1))
	for u := api.UNone; u <= api.UCqh; u++ {
		want := api.KLength
		if u == api.UNone {
			want = api.KNumber
		}
		kind(t, u, frac(1, 1, u), want)
		kind(t, u, frac(0, 0, u), want)
	}
	for _, k := range []int{api.ESum, api.EMin, api.EMax} {
		kind(t, k, of(k, n), api.KNumber)
		kind(t, k, of(k, l), api.KLength)
		kind(t, k, of(k, n, n, n), api.KNumber)
		kind(t, k, of(k, l, frac(1, 1, api.UVw)), api.KLength)
		kind(t, k, of(k, n, l), 0)
		kind(t, k, of(k, l, n), 0)
		kind(t, k, of(k, l, l, n), 0)
		kind(t, k, of(k, bad), 0)
		kind(t, k, of(k, bad, bad), 0)
		kind(t, k, of(k, n, bad), 0)
	}
	kind(t, "clamp", of(api.EClamp, n, n, n), api.KNumber)
	kind(t, "clamp", of(api.EClamp, l, l, l), api.KLength)
	for _, kids := range [][]api.Expr{{n, l, l}, {l, n, l}, {l, l, n}, {n, n, l}, {n, l, n}, {l, n, n}, {bad, l, l}, {bad, bad, bad}} {
		kind(t, kids, of(api.EClamp, kids...), 0)
	}
	kind(t, "neg", neg(n), api.KNumber)
	kind(t, "neg", neg(l), api.KLength)
	kind(t, "neg", neg(neg(l)), api.KLength)
	kind(t, "neg", neg(bad), 0)
	kind(t, "inv", inv(n), api.KNumber)
	kind(t, "inv", inv(inv(n)), api.KNumber)
	kind(t, "inv", inv(l), 0)
	kind(t, "inv", inv(inv(l)), 0)
	kind(t, "inv", inv(bad), 0)
	kind(t, "prod", of(api.EProd, n), api.KNumber)
	kind(t, "prod", of(api.EProd, l), api.KLength)
	kind(t, "prod", of(api.EProd, n, n), api.KNumber)
	kind(t, "prod", of(api.EProd, n, l), api.KLength)
	kind(t, "prod", of(api.EProd, l, n), api.KLength)
	kind(t, "prod", of(api.EProd, n, l, n, n), api.KLength)
	kind(t, "prod", of(api.EProd, l, inv(n)), api.KLength)
	kind(t, "prod", of(api.EProd, l, l), 0)
	kind(t, "prod", of(api.EProd, n, l, n, l), 0)
	kind(t, "prod", of(api.EProd, l, l, l), 0)
	kind(t, "prod", of(api.EProd, n, inv(l)), 0)
	kind(t, "prod", of(api.EProd, l, inv(l)), 0)
	kind(t, "prod", of(api.EProd, bad), 0)
	kind(t, "prod", of(api.EProd, n, bad), 0)
	kind(t, "prod", of(api.EProd, bad, n), 0)
	// A fault of the data is told ahead of a fault of the kinds.
	may(t, "both", of(api.ESum, n, l, api.Expr{}), false)
	may(t, "both", of(api.EProd, l, l, frac(2, 4, 0)), false)
}

// P11.4: the texts, letter by letter.
func TestText(t *testing.T) {
	a, b, c := num(1), frac(5, 2, api.UEm), frac(-3, 1, api.UCqw)
	writes(t, a, "1")
	writes(t, b, "2.5em")
	writes(t, c, "-3cqw")
	writes(t, frac(0, 0, api.URem), "1e99rem")
	writes(t, frac(0, 0, 0), "1e99")
	writes(t, num(0), "0")
	writes(t, of(api.EMin, a), "min(1)")
	writes(t, of(api.EMax, a, b), "max(1, 2.5em)")
	writes(t, of(api.EClamp, a, b, c), "clamp(1, 2.5em, -3cqw)")
	writes(t, of(api.ESum, a, b), "calc(1 + 2.5em)")
	writes(t, of(api.ESum, a, neg(b), neg(c), a), "calc(1 - 2.5em - -3cqw + 1)")
	writes(t, of(api.EProd, a, b), "calc(1 * 2.5em)")
	writes(t, of(api.EProd, a, inv(b), c, inv(c)), "calc(1 / 2.5em * -3cqw / -3cqw)")
	sum, prod := of(api.ESum, a, b), of(api.EProd, a, b)
	writes(t, of(api.ESum, sum, neg(sum), sum), "calc((1 + 2.5em) - (1 + 2.5em) + (1 + 2.5em))")
	writes(t, of(api.ESum, prod, neg(prod), prod), "calc(1 * 2.5em - 1 * 2.5em + 1 * 2.5em)")
	writes(t, of(api.EProd, prod, inv(prod), prod), "calc((1 * 2.5em) / (1 * 2.5em) * (1 * 2.5em))")
	writes(t, of(api.EProd, sum, inv(sum), sum), "calc((1 + 2.5em) / (1 + 2.5em) * (1 + 2.5em))")
	writes(t, of(api.EMin, sum, prod), "min(1 + 2.5em, 1 * 2.5em)")
	writes(t, of(api.EClamp, sum, of(api.EMax, prod), of(api.EClamp, a, a, a)), "clamp(1 + 2.5em, max(1 * 2.5em), clamp(1, 1, 1))")
	writes(t, of(api.ESum, of(api.EMin, a), neg(of(api.EMax, sum))), "calc(min(1) - max(1 + 2.5em))")
	writes(t, of(api.EProd, of(api.EMin, a), inv(of(api.EMax, sum))), "calc(min(1) / max(1 + 2.5em))")
}

// P11.4: numbers that rat.Plain takes, and others.
func TestTextNumbers(t *testing.T) {
	for _, r := range []api.Rat{{Num: 1, Den: 3}, {Num: -2, Den: 7}, {Num: 1234567890123456789, Den: 1}, {Num: math.MaxInt64, Den: 1}, {Num: 1234567890123456789, Den: 10}, {Num: 1, Den: 1 << 62}, {Num: 1, Den: 6}} {
		for u := api.UNone; u <= api.UCqh; u++ {
			e := frac(r.Num, r.Den, u)
			textless(t, r, e)
			textless(t, r, of(api.EMin, e))
			textless(t, r, of(api.EMin, num(1), e))
			textless(t, r, of(api.ESum, e, num(1), num(1)))
			textless(t, r, of(api.ESum, num(1), neg(e), num(1)))
			textless(t, r, of(api.EProd, num(1), inv(of(api.EMax, num(1), e))))
			textless(t, r, of(api.EClamp, num(1), e, num(1)))
		}
	}
	writes(t, frac(1, 1<<17, api.UVh), "0.00000762939453125vh")
	writes(t, frac(999999999999999999, 1, 0), "999999999999999999")
	writes(t, frac(-999999999999999999, 1000000000000000000, 0), "-0.999999999999999999")
	writes(t, frac(1e18, 1, api.UVw), "1000000000000000000vw")
}

// P11.4: what may be, but is not shaped.
func TestNotShaped(t *testing.T) {
	a, b := length(1), num(2)
	within := []func(api.Expr) api.Expr{
		func(e api.Expr) api.Expr { return e },
		func(e api.Expr) api.Expr { return of(api.EMin, e) },
		func(e api.Expr) api.Expr { return of(api.EMax, a, e) },
		func(e api.Expr) api.Expr { return of(api.EClamp, e, a, a) },
		func(e api.Expr) api.Expr { return of(api.EClamp, a, e, a) },
		func(e api.Expr) api.Expr { return of(api.EClamp, a, a, e) },
		func(e api.Expr) api.Expr { return of(api.ESum, e, a) },
		func(e api.Expr) api.Expr { return of(api.EProd, e, a) },
		func(e api.Expr) api.Expr { return of(api.ESum, a, neg(e)) },
		func(e api.Expr) api.Expr { return of(api.EProd, a, inv(e)) },
	}
	for i, in := range within {
		for j, e := range []api.Expr{neg(a), inv(b), neg(neg(a)), inv(inv(b)), neg(inv(b)), inv(neg(b)), of(api.ESum, a), of(api.EProd, b), of(api.ESum, neg(a)), of(api.EProd, inv(b)), of(api.ESum, neg(a), a), of(api.EProd, inv(b), b), of(api.ESum, a, neg(neg(a))), of(api.EProd, a, inv(inv(b))), of(api.ESum, a, inv(b)), of(api.EProd, a, neg(b)), of(api.ESum, a, neg(inv(b))), of(api.EProd, a, inv(neg(b))), of(api.ESum, a, a, of(api.ESum, a)), of(api.EMin, of(api.EProd, b))} {
			textless(t, []int{i, j}, in(e))
		}
		for _, e := range []api.Expr{a, of(api.ESum, a, neg(a)), of(api.EProd, a, inv(b)), of(api.EMin, a)} {
			if _, why := Text(in(e)); why != api.OK {
				t.Errorf("%d: %+v: %d", i, e, why)
			}
		}
	}
	for _, kind := range []int{api.EProd, api.EMin, api.EMax} {
		textless(t, kind, of(kind, a, neg(a)))
	}
	for _, kind := range []int{api.ESum, api.EMin, api.EMax} {
		textless(t, kind, of(kind, a, inv(a)))
	}
	textless(t, "clamp", of(api.EClamp, a, neg(a), inv(a)))
}
