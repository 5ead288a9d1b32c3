package calc

import (
	"math/rand"
	"reflect"
	"regexp"
	"slices"
	"strings"
	"testing"

	"jalousie/api"
	"jalousie/rat"
	"jalousie/rule"
)

// A second reading of the chapter, against which the program is held: values become letters, of which regular expressions say what the grammar says; kinds are powers of a length.

var (
	sumForm     = regexp.MustCompile(`^v(?:s*[*/]s*v|s+[+-]s+v)*$`)
	sumOperator = regexp.MustCompile(`s+[+-]s+`)
	unitForm    = regexp.MustCompile(`^(?:([pP][xX])|([eE][mM])|([rR][eE][mM])|([vV][wW])|([vV][hH])|([cC][qQ][wW])|([cC][qQ][hH]))$`)
	nameForm    = regexp.MustCompile(`^(?:([cC][aA][lL][cC])|([mM][iI][nN])|([mM][aA][xX])|([cC][lL][aA][mM][pP]))$`)
)

// group: which group of the form s is; 0: none.
func group(form *regexp.Regexp, s string) int {
	found := form.FindStringSubmatchIndex(s)
	for i := 2; i < len(found); i += 2 {
		if found[i] >= 0 {
			return i / 2
		}
	}
	return 0
}

func plainSigns(l []api.Value) (s string) {
	for _, v := range l {
		switch {
		case v.Tok.Kind == api.TSpace:
			s += "s"
		case v.Tok.Kind == api.TDelim && len(v.Tok.Text) == 1 && strings.Contains("+-*/", v.Tok.Text):
			s += v.Tok.Text
		default:
			s += "v"
		}
	}
	return s
}

func plainSum(l []api.Value) (api.Expr, bool) {
	l = rule.Trim(l)
	signs := plainSigns(l)
	if !sumForm.MatchString(signs) {
		return api.Expr{}, false
	}
	var kids []api.Expr
	start, minus := 0, false
	for _, cut := range append(sumOperator.FindAllStringIndex(signs, -1), []int{len(signs), len(signs)}) {
		e, ok := plainProduct(l[start:cut[0]])
		if !ok {
			return api.Expr{}, false
		}
		if minus {
			e = neg(e)
		}
		kids = append(kids, e)
		start, minus = cut[1], strings.Contains(signs[cut[0]:cut[1]], "-")
	}
	if len(kids) == 1 {
		return kids[0], true
	}
	return of(api.ESum, kids...), true
}

func plainProduct(l []api.Value) (api.Expr, bool) {
	var kids []api.Expr
	divide := false
	for _, v := range l {
		if v.Tok.Kind == api.TSpace {
			continue
		}
		if v.Tok.Kind == api.TDelim && (v.Tok.Text == "*" || v.Tok.Text == "/") {
			divide = v.Tok.Text == "/"
			continue
		}
		e, ok := plainExpr(v)
		if v.Tok.Kind == api.TOpenParen {
			e, ok = plainSum(v.Kids)
		}
		if !ok {
			return api.Expr{}, false
		}
		if divide {
			e = inv(e)
		}
		kids = append(kids, e)
	}
	if len(kids) == 1 {
		return kids[0], true
	}
	return of(api.EProd, kids...), true
}

func plainExpr(v api.Value) (api.Expr, bool) {
	r := v.Tok.Num
	if !rat.May(r) {
		r = api.Rat{}
	}
	switch v.Tok.Kind {
	case api.TNumber:
		return frac(r.Num, r.Den, 0), true
	case api.TDim:
		u := group(unitForm, v.Tok.Text)
		if u == 0 {
			return api.Expr{}, false
		}
		return frac(r.Num, r.Den, u), true
	case api.TFunc:
		return plainFunction(group(nameForm, v.Tok.Text), v.Kids)
	}
	return api.Expr{}, false
}

func plainFunction(which int, l []api.Value) (api.Expr, bool) {
	if which == 0 {
		return api.Expr{}, false
	}
	if which == 1 {
		return plainSum(l)
	}
	var kids []api.Expr
	for _, piece := range rule.Split(l) {
		e, ok := plainSum(piece)
		if !ok {
			return api.Expr{}, false
		}
		kids = append(kids, e)
	}
	if which == 4 && len(kids) != 3 {
		return api.Expr{}, false
	}
	return of([]int{0, 0, api.EMin, api.EMax, api.EClamp}[which], kids...), true
}

func plainParse(l []api.Value) (api.Expr, api.Errno) {
	if !rule.May(l) {
		return api.Expr{}, api.ErrArg
	}
	if l = rule.Trim(l); len(l) == 1 {
		if e, ok := plainExpr(l[0]); ok {
			return e, api.OK
		}
	}
	return api.Expr{}, api.ErrSyntax
}

func plainMay(e api.Expr) bool {
	bounds := map[int][2]int{api.ENum: {0, 0}, api.ESum: {1, 1 << 40}, api.ENeg: {1, 1}, api.EProd: {1, 1 << 40}, api.EInv: {1, 1}, api.EMin: {1, 1 << 40}, api.EMax: {1, 1 << 40}, api.EClamp: {3, 3}}
	b, known := bounds[e.Kind]
	if !known || len(e.Kids) < b[0] || len(e.Kids) > b[1] || depth(e) > 340 {
		return false
	}
	if e.Kind == api.ENum && (!rat.May(e.Num) || e.Unit < 0 || e.Unit > 7) {
		return false
	}
	if e.Kind != api.ENum && (e.Num != api.Rat{} || e.Unit != 0) {
		return false
	}
	return !slices.ContainsFunc(e.Kids, func(k api.Expr) bool { return !plainMay(k) })
}

// power: 0 of a number, 1 of a length, much of what has no kind.
func power(e api.Expr) int {
	const much = 1000
	kids, total := map[int]int{}, 0
	for _, k := range e.Kids {
		p := power(k)
		kids[p]++
		total += p
	}
	switch {
	case e.Kind == api.ENum && e.Unit > 0:
		return 1
	case e.Kind == api.ENum:
		return 0
	case e.Kind == api.EProd && total <= 1:
		return total
	case e.Kind == api.EInv && total == 0:
		return 0
	case e.Kind != api.EProd && e.Kind != api.EInv && len(kids) == 1:
		return min(much, total/len(e.Kids))
	}
	return much
}

func plainKind(e api.Expr) (int, api.Errno) {
	if !plainMay(e) {
		return 0, api.ErrArg
	}
	if p := power(e); p <= 1 {
		return p + 1, api.OK
	}
	return 0, api.ErrType
}

// plainShaped: e stands as the kid at of an expression of the kind above (0: in none).
func plainShaped(e api.Expr, above, at int) bool {
	switch e.Kind {
	case api.ENeg:
		if above != api.ESum || at == 0 || e.Kids[0].Kind == api.ENeg {
			return false
		}
	case api.EInv:
		if above != api.EProd || at == 0 || e.Kids[0].Kind == api.EInv {
			return false
		}
	case api.ESum, api.EProd:
		if len(e.Kids) < 2 {
			return false
		}
	}
	for i, k := range e.Kids {
		if !plainShaped(k, e.Kind, i) {
			return false
		}
	}
	return true
}

func plainNumbers(e api.Expr) bool {
	if e.Kind == api.ENum {
		_, why := rat.Plain(e.Num, e.Num.Den == 1)
		return why == api.OK || e.Num == api.Rat{}
	}
	return !slices.ContainsFunc(e.Kids, func(k api.Expr) bool { return !plainNumbers(k) })
}

// strength: how tightly a text of this kind holds together: sums least.
func strength(kind int) int {
	switch kind {
	case api.ESum:
		return 1
	case api.EProd:
		return 2
	}
	return 3
}

// plainWords: the text of e at a place where what holds less tightly than this stands in parentheses.
func plainWords(e api.Expr, least int) string {
	if strength(e.Kind) < least {
		return "(" + plainWords(e, 1) + ")"
	}
	names := map[int]string{api.EMin: "min(", api.EMax: "max(", api.EClamp: "clamp("}
	var texts []string
	for i, k := range e.Kids {
		sign := ""
		switch {
		case k.Kind == api.ENeg || k.Kind == api.EInv:
			sign = map[int]string{api.ENeg: "- ", api.EInv: "/ "}[k.Kind]
			k = k.Kids[0]
		case i > 0:
			sign = map[int]string{api.ESum: "+ ", api.EProd: "* "}[e.Kind]
		}
		texts = append(texts, sign+plainWords(k, map[int]int{api.ESum: 2, api.EProd: 3}[e.Kind]))
	}
	switch e.Kind {
	case api.ENum:
		digits, _ := rat.Plain(e.Num, e.Num.Den == 1)
		return digits + strings.Fields(`"" px em rem vw vh cqw cqh`)[e.Unit]
	case api.ESum, api.EProd:
		return strings.Join(texts, " ")
	}
	return names[e.Kind] + strings.Join(texts, ", ") + ")"
}

func plainText(e api.Expr) (string, api.Errno) {
	if !plainMay(e) || !plainNumbers(e) || !plainShaped(e, 0, 0) {
		return "", api.ErrArg
	}
	s := strings.ReplaceAll(plainWords(e, 1), `""`, "")
	if e.Kind == api.ESum || e.Kind == api.EProd {
		s = "calc(" + s + ")"
	}
	return s, api.OK
}

// holdParse: both readings tell the same of the values.
func holdParse(t *testing.T, l []api.Value) (api.Expr, api.Errno) {
	t.Helper()
	got, e := Parse(l)
	want, wantErr := plainParse(l)
	if e != wantErr || !reflect.DeepEqual(got, want) {
		t.Fatalf("%+v: %+v %d, not %+v %d", l, got, e, want, wantErr)
	}
	return got, e
}

// holdExpr: both readings tell the same of the expression.
func holdExpr(t *testing.T, e api.Expr) {
	t.Helper()
	if May(e) != plainMay(e) {
		t.Fatalf("%+v: %v", e, May(e))
	}
	kind, why := Kind(e)
	if want, wantErr := plainKind(e); kind != want || why != wantErr {
		t.Fatalf("%+v: kind %d %d, not %d %d", e, kind, why, want, wantErr)
	}
	text, why := Text(e)
	if want, wantErr := plainText(e); text != want || why != wantErr {
		t.Fatalf("%+v: %q %d, not %q %d", e, text, why, want, wantErr)
	}
	if why != api.OK {
		return
	}
	if back, why := Parse(values(text)); why != api.OK || !reflect.DeepEqual(back, e) {
		t.Fatalf("%q: %+v %d, not %+v", text, back, why, e)
	}
}

// holdBack: P11.5: what is told of a text may be, is shaped, and is read again of its own text.
func holdBack(t *testing.T, s string) bool {
	t.Helper()
	e, why := holdParse(t, values(s))
	if why != api.OK {
		return false
	}
	if _, why := Text(e); why != api.OK || !May(e) || !plainShaped(e, 0, 0) {
		t.Fatalf("%q: %+v %d", s, e, why)
	}
	holdExpr(t, e)
	return true
}

// P11.1: all short lists of tokens, alone and in each function and parentheses.
func TestPlainShort(t *testing.T) {
	words := []string{"1", "2px", " ", "+", "-", "*", "/", ",", "s"}
	var alphabet []api.Value
	for _, w := range words {
		alphabet = append(alphabet, values(w)...)
	}
	lists := [][]api.Value{nil}
	for from, n := 0, 0; n < 5; n++ {
		to := len(lists)
		for _, l := range lists[from:to] {
			for _, v := range alphabet {
				lists = append(lists, append(slices.Clip(l), v))
			}
		}
		from = to
	}
	read := 0
	for _, l := range lists {
		holdParse(t, l)
		for _, name := range []string{"calc", "min", "Clamp"} {
			f := api.Value{Tok: api.Token{Kind: api.TFunc, Text: name}, Kids: l}
			if _, e := holdParse(t, []api.Value{f}); e == api.OK {
				read++
			}
			holdParse(t, []api.Value{{Tok: api.Token{Kind: api.TFunc, Text: "max"}, Kids: []api.Value{f, {Tok: api.Token{Kind: api.TDelim, Text: "*"}}, {Tok: api.Token{Kind: api.TOpenParen}, Kids: l}}}})
		}
	}
	if read < 300 {
		t.Error(read)
	}
}

// randomText: a text made of what the grammar names, mostly in its order.
func randomText(r *rand.Rand, deep int) string {
	one := func() string {
		nums := []string{"1", "-2.5", "0", ".5em", "3PX", "7vw", "1e99", "+4cqh", "2rem", "1s", "5%", "a"}
		switch n := r.Intn(12); {
		case deep == 0 || n < 5:
			return nums[r.Intn(len(nums)-r.Intn(4))]
		case n < 8:
			return []string{"calc(", "min(", "MAX(", "clamp(", "f("}[r.Intn(5-r.Intn(2))] + randomText(r, deep-1) + ")"
		case n < 10:
			return "(" + randomText(r, deep-1) + ")"
		case n < 11:
			return "clamp(" + randomText(r, deep-1) + "," + randomText(r, 0) + ", " + randomText(r, deep-1) + ")"
		}
		return "[" + randomText(r, deep-1) + "]"
	}
	s := one()
	for range r.Intn(4) {
		ops := []string{" + ", " - ", "*", "/", " * ", " / ", ", ", " /**/ - /**/ ", "+", " -", "- ", " "}
		s += ops[r.Intn(len(ops)-r.Intn(6))] + one()
	}
	return s
}

// P11.1, P11.5: longer texts.
func TestPlainRandomTexts(t *testing.T) {
	r := rand.New(rand.NewSource(11))
	read := 0
	for range 8000 {
		s := randomText(r, 3)
		for _, text := range []string{s, "calc(" + s + ")", " max( " + s + " ) "} {
			if holdBack(t, text) {
				read++
			}
		}
	}
	if read < 3000 {
		t.Error(read)
	}
}

// P11.1: any values, whatever stands in their fields.
func TestPlainRandomValues(t *testing.T) {
	r := rand.New(rand.NewSource(12))
	texts := []string{"px", "EM", "s", "", "+", "-", "*", "/", "calc", "Min", "max", "clamp"}
	var list func(deep int) []api.Value
	list = func(deep int) (l []api.Value) {
		for range r.Intn(6) {
			kind := []int{api.TNumber, api.TDim, api.TSpace, api.TDelim, api.TFunc, api.TOpenParen, api.TComma, r.Intn(27)}[r.Intn(8)]
			v := api.Value{Tok: api.Token{Kind: kind, Text: texts[r.Intn(len(texts))], Num: api.Rat{Num: int64(r.Intn(4)), Den: int64(r.Intn(4) - 1)}, Int: r.Intn(2) == 0, Id: r.Intn(2) == 0}}
			if deep > 0 && (kind == api.TFunc || kind == api.TOpenParen || r.Intn(40) == 0) {
				v.Kids = list(deep - 1)
			}
			l = append(l, v)
		}
		return l
	}
	for range 200000 {
		l := list(3)
		holdParse(t, l)
		if len(l) > 0 {
			holdParse(t, l[:1])
		}
	}
}

// P11.2, P11.3, P11.4: all small expressions.
func TestPlainSmall(t *testing.T) {
	nums := []api.Expr{num(1), frac(5, 2, api.UEm), frac(1, 3, 0), frac(0, 0, api.UVw), frac(2, 4, 0), frac(1, 1, 8), {}}
	var small []api.Expr
	for kind := 0; kind <= 9; kind++ {
		small = append(small, of(kind))
		for _, a := range nums {
			small = append(small, of(kind, a))
			for _, b := range nums {
				small = append(small, of(kind, a, b))
				for _, c := range nums[:4] {
					small = append(small, of(kind, a, b, c), of(kind, c, b, a, a))
				}
			}
		}
	}
	for _, e := range append(nums, small...) {
		holdExpr(t, e)
		for kind := api.ESum; kind <= api.EClamp; kind++ {
			holdExpr(t, of(kind, e))
			holdExpr(t, of(kind, num(2), e))
			holdExpr(t, of(kind, e, e, length(3)))
			holdExpr(t, of(kind, length(2), neg(e), inv(e)))
		}
	}
}

// randomExpr: an expression that is mostly as it may be.
func randomExpr(r *rand.Rand, deep int) api.Expr {
	if deep == 0 || r.Intn(4) == 0 {
		rats := []api.Rat{{Num: 1, Den: 1}, {Num: -7, Den: 4}, {}, {Num: 1, Den: 1}, {Den: 1}, {Num: 1, Den: 3}, {Num: 2, Den: 2}}
		f := rats[r.Intn(len(rats)-r.Intn(3))]
		return frac(f.Num, f.Den, r.Intn(8)*r.Intn(2))
	}
	kind := api.ESum + r.Intn(7)
	count := []int{2, 3, 2, 4, 1}[r.Intn(5)]
	switch {
	case r.Intn(100) == 0:
	case kind == api.ENeg || kind == api.EInv:
		count = 1
	case kind == api.EClamp:
		count = 3
	}
	e := api.Expr{Kind: kind}
	for range count {
		e.Kids = append(e.Kids, randomExpr(r, deep-1))
	}
	return e
}

// P11.2 to P11.5: larger expressions.
func TestPlainRandomExprs(t *testing.T) {
	r := rand.New(rand.NewSource(13))
	shapes := 0
	for range 100000 {
		e := randomExpr(r, 1+r.Intn(4))
		holdExpr(t, e)
		if _, why := Text(e); why == api.OK {
			shapes++
		}
	}
	if shapes < 10000 {
		t.Error(shapes)
	}
}

// shuffled: the same expression with other numbers, over too, and its kids in another order.
func shuffled(r *rand.Rand, e api.Expr) api.Expr {
	rats := []api.Rat{{Num: 1, Den: 1}, {Num: -7, Den: 4}, {}, {Num: 1, Den: 3}, {Den: 1}}
	if e.Kind == api.ENum {
		e.Num = rats[r.Intn(len(rats))]
	}
	kids := make([]api.Expr, len(e.Kids))
	for i, at := range r.Perm(len(kids)) {
		kids[i] = shuffled(r, e.Kids[at])
	}
	e.Kids = kids
	return e
}

// P11.6: Kind hangs on neither numbers nor the order of kids.
func TestKindStays(t *testing.T) {
	r := rand.New(rand.NewSource(14))
	kinds := map[int]int{}
	for range 50000 {
		e := randomExpr(r, 1+r.Intn(4))
		if !May(e) {
			continue
		}
		kind, why := Kind(e)
		other := shuffled(r, e)
		if k, w := Kind(other); k != kind || w != why {
			t.Fatalf("%+v: %d %d; %+v: %d %d", e, kind, why, other, k, w)
		}
		kinds[kind]++
	}
	if kinds[0] < 1000 || kinds[api.KNumber] < 1000 || kinds[api.KLength] < 1000 {
		t.Error(kinds)
	}
}
