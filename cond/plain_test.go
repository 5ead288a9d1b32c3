package cond

import (
	"math/big"
	"math/rand"
	"reflect"
	"regexp"
	"slices"
	"strings"
	"testing"

	"jalousie/api"
	"jalousie/calc"
	"jalousie/rule"
)

// A second reading of the chapter, against which the program is held: a list of component values becomes a letter for each, and regular expressions tell what it is and how far it is come to.

var (
	notForm   = regexp.MustCompile(`^np$`)
	partForm  = regexp.MustCompile(`^p$`)
	andForm   = regexp.MustCompile(`^p(ap)+$`)
	orForm    = regexp.MustCompile(`^p(op)+$`)
	beginning = regexp.MustCompile(`^(np|p(ap)*|p(op)*)`)
	wordForms = []*regexp.Regexp{regexp.MustCompile(`^[nN][oO][tT]$`), regexp.MustCompile(`^[aA][nN][dD]$`), regexp.MustCompile(`^[oO][rR]$`)}
)

func init() { beginning.Longest() }

// letter: n, a, o: a word; p: a part; nothing: TSpace; x: anything else.
func letter(v api.Value) string {
	switch v.Tok.Kind {
	case api.TSpace:
		return ""
	case api.TOpenParen, api.TFunc:
		return "p"
	case api.TIdent:
		for i, form := range wordForms {
			if form.MatchString(v.Tok.Text) {
				return "nao"[i : i+1]
			}
		}
	}
	return "x"
}

// plainRead: the condition that l is, whether it is one, and of which parts leaf is asked on the way.
func plainRead(l []api.Value, leaf func(api.Value) (api.Cond, bool)) (api.Cond, bool, []api.Value) {
	letters := ""
	var parts []api.Value
	for _, v := range l {
		letters += letter(v)
		if letter(v) == "p" {
			parts = append(parts, v)
		}
	}
	parts = parts[:strings.Count(beginning.FindString(letters), "p")]
	var asked []api.Value
	var kids []api.Cond
	for _, v := range parts {
		asked = append(asked, v)
		c, ok := leaf(v)
		if !ok && v.Tok.Kind == api.TOpenParen {
			var more []api.Value
			c, ok, more = plainRead(v.Kids, leaf)
			asked = append(asked, more...)
		}
		if !ok {
			c = api.Cond{Kind: api.KLeaf}
		}
		kids = append(kids, c)
	}
	switch {
	case partForm.MatchString(letters):
		return kids[0], true, asked
	case notForm.MatchString(letters):
		return api.Cond{Kind: api.KNot, Kids: kids}, true, asked
	case andForm.MatchString(letters):
		return api.Cond{Kind: api.KAnd, Kids: kids}, true, asked
	case orForm.MatchString(letters):
		return api.Cond{Kind: api.KOr, Kids: kids}, true, asked
	}
	return api.Cond{}, false, asked
}

// picky takes every other part, more or less, by what stands in it.
func picky(v api.Value) (api.Cond, bool) {
	n := 0
	for _, kid := range v.Kids {
		n += len(kid.Tok.Text) + kid.Tok.Kind
	}
	return or(named("x"), fixed(n%3)), (len(v.Tok.Text)+n)%5 == 0
}

// hold: both readings tell the same of the values, and ask the same.
func hold(t *testing.T, l []api.Value) (api.Cond, api.Errno) {
	t.Helper()
	var first api.Cond
	var why api.Errno
	for i, leaf := range []func(api.Value) (api.Cond, bool){leaf, picky} {
		var asked []api.Value
		c, e := Parse(l, func(v api.Value) (api.Cond, bool) { asked = append(asked, v); return leaf(v) })
		want, ok, wantAsked := plainRead(l, leaf)
		wantErr := api.OK
		switch {
		case !rule.May(l):
			want, wantErr, wantAsked = api.Cond{}, api.ErrArg, nil
		case !ok:
			wantErr = api.ErrSyntax
		}
		if e != wantErr || !reflect.DeepEqual(c, want) {
			t.Fatalf("%d, %+v: %+v %d, not %+v %d", i, l, c, e, want, wantErr)
		}
		if !slices.EqualFunc(asked, wantAsked, func(a, b api.Value) bool { return slices.Equal(flat(a), flat(b)) }) {
			t.Fatalf("%d, %+v: asked %+v, not %+v", i, l, asked, wantAsked)
		}
		if i == 0 {
			first, why = c, e
		}
	}
	return first, why
}

func flat(v api.Value) []api.Token { return rule.Flat([]api.Value{v}) }

// P15.2: all short lists.
func TestPlainShort(t *testing.T) {
	var alphabet []api.Value
	for _, s := range []string{"not", "And", "oR", "(a)", "f(a)", "(not (b))", " ", "x"} {
		alphabet = append(alphabet, values(s)...)
	}
	lists := [][]api.Value{nil}
	for from, n := 0, 0; n < 5; n++ {
		to := len(lists)
		for _, l := range lists[from:to] {
			for _, v := range alphabet {
				lists = append(lists, append(slices.Clip(l), v))
			}
		}
		from = to
	}
	read := 0
	for i, l := range lists {
		if _, e := hold(t, l); e == api.OK {
			read++
		}
		if i%7 == 0 {
			hold(t, []api.Value{{Tok: api.Token{Kind: api.TOpenParen}, Kids: l}, alphabet[1], {Tok: api.Token{Kind: api.TOpenParen}, Kids: lists[i/2]}})
		}
	}
	if read < 400 {
		t.Error(read)
	}
}

// dice makes texts, values and conditions of a seed.
type dice struct{ *rand.Rand }

func roll(seed int64) dice { return dice{rand.New(rand.NewSource(seed))} }

func one[T any](d dice, l []T) T { return l[d.Intn(len(l))] }

// text: a condition, or what is nearly one.
func (d dice) text(deep int) string {
	part := func() string {
		if d.Intn(20) == 0 {
			return one(d, []string{"[a]", "a", "", "1", ",", "not (a)", "\"\n", "{(a)}"})
		}
		if deep == 0 || d.Intn(3) == 0 {
			return one(d, []string{"(a)", "(b)", "(c)", "(a b)", "f(a)", "()", "(1)", "not(a)"})
		}
		return one(d, []string{"(", "(", "(", "(/**/ ", "g("}) + d.text(deep-1) + ")"
	}
	space := func() string { return one(d, []string{" ", " ", " ", "/**/", " /**/ ", "\n"}) }
	word := one(d, []string{"and", "or", "AND", "Or"})
	s := part()
	switch d.Intn(3) {
	case 0:
		return one(d, []string{"not", "NOT", "noT"}) + " " + s
	case 1:
		return s
	}
	for range 1 + d.Intn(3) {
		if d.Intn(20) == 0 {
			word = one(d, []string{"and", "or", "not", "xor", "", ","})
		}
		s += space() + word + " " + part()
	}
	return s
}

// P15.2: longer texts; what is told may be.
func TestPlainTexts(t *testing.T) {
	d := roll(15)
	told := map[int]int{}
	for range 20000 {
		s := d.text(d.Intn(5))
		c, e := hold(t, values(s))
		if e == api.OK && !May(c) {
			t.Fatalf("%q: %+v", s, c)
		}
		told[c.Kind]++
	}
	for kind := range 5 {
		if told[kind] < 500 {
			t.Error(told)
		}
	}
}

// values: raw ones; now and then such as may not be.
func (d dice) values(deep int) (l []api.Value) {
	for range d.Intn(6) {
		kind := one(d, []int{api.TIdent, api.TIdent, api.TSpace, api.TOpenParen, api.TOpenParen, api.TOpenParen, api.TFunc, d.Intn(27) - 1})
		v := api.Value{Tok: api.Token{Kind: kind, Text: one(d, []string{"", "not", "And", "and", "or", "OR", "a"}), Id: d.Intn(2) == 0}}
		if deep > 0 && (kind == api.TOpenParen || kind == api.TFunc || d.Intn(50) == 0) {
			v.Kids = d.values(deep - 1)
		}
		l = append(l, v)
	}
	return l
}

// P15.2: any values, whatever stands in their fields.
func TestPlainValues(t *testing.T) {
	d := roll(16)
	told := map[api.Errno]int{}
	for range 100000 {
		_, e := hold(t, d.values(4))
		told[e]++
	}
	if told[api.OK] < 3000 || told[api.ErrArg] < 3000 || told[api.ErrSyntax] < 3000 {
		t.Error(told)
	}
}

// plainLeafMay goes through the fields by their names.
func plainLeafMay(l api.Leaf) bool {
	fields, ok := map[int]string{0: "Kind", 1: "Kind Truth", 2: "Kind Name", 3: "Kind Name", 4: "Kind Name Op Expr", 5: "Kind Name Word", 6: "Kind Name Value Any"}[l.Kind]
	v := reflect.ValueOf(l)
	for i := range v.NumField() {
		if name := v.Type().Field(i).Name; !strings.Contains(fields, name) && !v.Field(i).IsZero() {
			ok = false
		}
		if name := v.Type().Field(i).Name; name == "Name" && strings.Contains(fields, name) && l.Name == "" {
			ok = false
		}
	}
	return ok && l.Truth >= 0 && l.Truth <= 2 && (l.Kind != 4 || l.Op >= 1 && l.Op <= 5 && calc.May(l.Expr)) && !(l.Any && l.Value != "")
}

func plainDepth(c api.Cond) int {
	most := 0
	for _, kid := range c.Kids {
		most = max(most, plainDepth(kid))
	}
	return most + 1
}

func plainMay(c api.Cond) bool {
	for _, kid := range c.Kids {
		if !plainMay(kid) {
			return false
		}
	}
	counts := map[int][2]int{api.KAnd: {1, 1 << 30}, api.KOr: {1, 1 << 30}, api.KNot: {1, 1}, api.KLeaf: {0, 0}}
	n, ok := counts[c.Kind]
	leafFits := c.Kind == api.KLeaf && plainLeafMay(c.Leaf) || c.Kind != api.KLeaf && reflect.ValueOf(c.Leaf).IsZero()
	return ok && len(c.Kids) >= n[0] && len(c.Kids) <= n[1] && leafFits && plainDepth(c) <= 340
}

// plainEval counts the kids of each truth.
func plainEval(c api.Cond, f func(api.Leaf) int) int {
	var counts [3]int
	for _, kid := range c.Kids {
		counts[plainEval(kid, f)]++
	}
	switch {
	case c.Kind == api.KLeaf && c.Leaf.Kind == api.LTruth:
		return c.Leaf.Truth
	case c.Kind == api.KLeaf && c.Leaf.Kind != api.LUnknown:
		if x := f(c.Leaf); x == 0 || x == 2 {
			return x
		}
	case c.Kind == api.KNot && counts[0] > 0, c.Kind == api.KOr && counts[2] > 0, c.Kind == api.KAnd && counts[0]+counts[1] == 0:
		return api.TTrue
	case c.Kind == api.KNot && counts[2] > 0, c.Kind == api.KAnd && counts[0] > 0, c.Kind == api.KOr && counts[1]+counts[2] == 0:
		return api.TFalse
	}
	return api.TUnknown
}

func plainLeaves(c api.Cond) (l []api.Leaf) {
	if c.Kind == api.KLeaf {
		return []api.Leaf{c.Leaf}
	}
	for _, kid := range c.Kids {
		l = append(l, plainLeaves(kid)...)
	}
	return l
}

// leaf: mostly one that may be.
func (d dice) leaf() api.Leaf {
	l := one(d, leaves())
	if d.Intn(3) > 0 {
		l = named(one(d, []string{"t", "f", "u", "x", "y"})).Leaf
	}
	if d.Intn(60) == 0 {
		l = withField(l, d.Intn(reflect.TypeFor[api.Leaf]().NumField()))
	}
	return l
}

// cond: mostly one that may be.
func (d dice) cond(deep int) api.Cond {
	if deep == 0 || d.Intn(4) == 0 {
		return leafOf(d.leaf())
	}
	c := api.Cond{Kind: 1 + d.Intn(3)}
	n := 1 + d.Intn(4)
	if c.Kind == api.KNot {
		n = 1
	}
	if d.Intn(60) == 0 {
		c.Kind, n = d.Intn(7)-1, d.Intn(3)
	}
	for range n {
		c.Kids = append(c.Kids, d.cond(deep-1))
	}
	if d.Intn(100) == 0 {
		c.Leaf = d.leaf()
	}
	return c
}

// P15.3, P15.4, P15.6: any conditions.
func TestPlainConds(t *testing.T) {
	d := roll(17)
	may := map[bool]int{}
	truths := map[int]int{}
	for range 30000 {
		c := d.cond(d.Intn(6))
		ask := func(l api.Leaf) int { return strings.Index("fut", l.Name[:1]) }
		ok := plainMay(c)
		may[ok]++
		truth, leaves := api.TUnknown, []api.Leaf(nil)
		if ok {
			truth, leaves = plainEval(c, ask), plainLeaves(c)
		}
		truths[truth]++
		if May(c) != ok || Eval(c, ask) != truth || !reflect.DeepEqual(Leaves(c), leaves) {
			t.Fatalf("%+v: %v, %d, %+v", c, May(c), Eval(c, ask), Leaves(c))
		}
		if !Same(c, c) || !Same(own(c), c) {
			t.Fatalf("%+v", c)
		}
		if o := d.cond(d.Intn(3)); Same(c, o) != reflect.DeepEqual(c, o) || Same(o, c) != reflect.DeepEqual(c, o) {
			t.Fatalf("%+v %+v", c, o)
		}
	}
	if may[true] < 10000 || may[false] < 2000 || truths[0] < 2000 || truths[2] < 2000 {
		t.Error(may, truths)
	}
}

// P15.7: the laws of three truths.
func TestLaws(t *testing.T) {
	for x := -1; x < 4; x++ {
		if Not(Not(x)) != And(x) || Or(x) != And(x) || And(x, x) != Or(x) {
			t.Error(x)
		}
		if (Not(x) == And(x)) != (And(x) == api.TUnknown) {
			t.Error(x, "is what Not leaves")
		}
		for y := -1; y < 4; y++ {
			if Not(And(x, y)) != Or(Not(x), Not(y)) || Not(Or(x, y)) != And(Not(x), Not(y)) || And(x, y) != And(y, x) || Or(x, y) != Or(y, x) || And(x, Or(x, y)) != And(x) || Or(x, And(x, y)) != Or(x) {
				t.Error(x, y)
			}
			for z := -1; z < 4; z++ {
				if And(And(x, y), z) != And(x, And(y, z)) || Or(Or(x, y), z) != Or(x, Or(y, z)) || And(x, y, z) != And(And(x, y), z) || Or(x, y, z) != Or(Or(x, y), z) {
					t.Error(x, y, z, "go on")
				}
				if And(x, Or(y, z)) != Or(And(x, y), And(x, z)) || Or(x, And(y, z)) != And(Or(x, y), Or(x, z)) {
					t.Error(x, y, z, "over each other")
				}
			}
		}
	}
}

// P15.7: the laws, of conditions.
func TestCondLaws(t *testing.T) {
	d := roll(18)
	for range 3000 {
		a, b, c := d.cond(3), d.cond(3), d.cond(3)
		if !May(a) || !May(b) || !May(c) {
			continue
		}
		for i, pair := range [][2]api.Cond{
			{not(and(a, b)), or(not(a), not(b))}, {not(or(a, b)), and(not(a), not(b))}, {not(not(a)), a},
			{and(a, b), and(b, a)}, {or(a, b), or(b, a)}, {and(and(a, b), c), and(a, b, c)}, {or(a, or(b, c)), or(a, b, c)},
			{and(a, or(b, c)), or(and(a, b), and(a, c))}, {or(a, and(b, c)), and(or(a, b), or(a, c))},
		} {
			if x, y := Eval(pair[0], ask), Eval(pair[1], ask); x != y {
				t.Fatalf("%d, %+v %+v %+v: %d %d", i, a, b, c, x, y)
			}
		}
	}
}

// P15.7: what is known does not turn, whatever is made of what is not.
func TestKleene(t *testing.T) {
	d := roll(19)
	settled := 0
	for range 6000 {
		c := d.cond(1 + d.Intn(4))
		if !May(c) {
			continue
		}
		whole := Eval(c, ask)
		if whole == api.TUnknown {
			continue
		}
		for range 8 {
			turned := 0
			x := Eval(c, func(l api.Leaf) int {
				if y := ask(l); y == api.TTrue || y == api.TFalse {
					return y
				}
				turned++
				return d.Intn(3)
			})
			if x != whole {
				t.Fatalf("%+v: %d, and then %d", c, whole, x)
			}
			settled += turned
		}
		if known := d.settle(c); Eval(known, ask) != whole {
			t.Fatalf("%+v: %d, and then %d: %+v", c, whole, Eval(known, ask), known)
		}
	}
	if settled < 5000 {
		t.Error(settled)
	}
}

// settle: c with its leaves that are unknown made true or false.
func (d dice) settle(c api.Cond) api.Cond {
	if c.Kind == api.KLeaf && (c.Leaf.Kind == api.LUnknown || c.Leaf.Kind == api.LTruth && c.Leaf.Truth == api.TUnknown) {
		return fixed(2 * d.Intn(2))
	}
	kids := slices.Clone(c.Kids)
	for i, kid := range kids {
		kids[i] = d.settle(kid)
	}
	c.Kids = kids
	return c
}

// P15.5, P15.8: fractions, held against those of any size.
func TestPlainCmp(t *testing.T) {
	d := roll(20)
	turned := map[int]int{api.OpLt: api.OpGt, api.OpLe: api.OpGe, api.OpEq: api.OpEq, api.OpGe: api.OpLe, api.OpGt: api.OpLt}
	some := func() api.Rat {
		n, m := d.Int63n(9)-4, d.Int63n(5)
		if d.Intn(3) == 0 {
			n, m = d.Int63()-d.Int63(), d.Int63()
		}
		return frac(n, m)
	}
	over := 0
	for range 40000 {
		a, b := some(), some()
		want := []int{1, 1, 1, 1, 1, 1, 1}
		if x, y := wide(a), wide(b); x != nil && y != nil {
			c := x.Cmp(y)
			for i, is := range []bool{c < 0, c <= 0, c == 0, c >= 0, c > 0} {
				want[i+1] = 0
				if is {
					want[i+1] = 2
				}
			}
		} else {
			over++
		}
		for op, x := range want {
			if Cmp(op, a, b) != x || Cmp(turned[op], b, a) != x {
				t.Fatalf("%d %v %v: %d %d, not %d", op, a, b, Cmp(op, a, b), Cmp(turned[op], b, a), x)
			}
		}
		if Cmp(api.OpLe, a, b) != Or(Cmp(api.OpLt, a, b), Cmp(api.OpEq, a, b)) || Cmp(api.OpGe, a, b) != Not(Cmp(api.OpLt, a, b)) {
			t.Fatal(a, b)
		}
	}
	if over < 5000 || over > 35000 {
		t.Error(over)
	}
}

// wide: nil, if the fraction is over or may not be.
func wide(r api.Rat) *big.Rat {
	if r.Den < 1 {
		return nil
	}
	v := big.NewRat(r.Num, r.Den)
	if v.Num().Int64() != r.Num || v.Denom().Int64() != r.Den {
		return nil
	}
	return v
}
