package calc

import (
	"reflect"
	"slices"
	"strings"
	"sync"
	"testing"

	"jalousie/api"
)

const busy = "clamp(1px - 2em * 3 / (4 - 5), min(6VW, max(7vh, calc(8rem))), (9cqw + 1.5cqh) * 2)"

// parsed: the expression of a text, each time anew.
func parsed(t *testing.T, s string) api.Expr {
	t.Helper()
	e, why := Parse(values(s))
	if why != api.OK {
		t.Fatalf("%q: %d", s, why)
	}
	return e
}

// The units of this package are those of api.
func TestUnitConstants(t *testing.T) {
	for i, pair := range [][2]int{{none, api.UNone}, {px, api.UPx}, {em, api.UEm}, {rem, api.URem}, {vw, api.UVw}, {vh, api.UVh}, {cqw, api.UCqw}, {cqh, api.UCqh}} {
		if pair[0] != pair[1] {
			t.Error(i, pair)
		}
	}
}

// R2: what is handed in is not changed.
func TestArgumentsStay(t *testing.T) {
	for _, s := range []string{busy, busy + " 1", "min(1 - 2,)", "calc(1 +2)"} {
		l := values(s)
		Parse(l)
		if !reflect.DeepEqual(l, values(s)) {
			t.Errorf("%q has become %+v", s, l)
		}
	}
	e := parsed(t, busy)
	May(e)
	Kind(e)
	Text(e)
	if !reflect.DeepEqual(e, parsed(t, busy)) {
		t.Errorf("%+v", e)
	}
}

// spoil: other values at each place of the lists of e, and in their spare room.
func spoil(e api.Expr) {
	for i := range e.Kids {
		spoil(e.Kids[i])
	}
	room := e.Kids[:cap(e.Kids)]
	for i := range room {
		room[i] = api.Expr{Kind: -1}
	}
}

// R2: what is told is the caller's own: it hangs on neither what was handed in nor another answer.
func TestAnswersAreNew(t *testing.T) {
	l := values(busy)
	first, _ := Parse(l)
	second, _ := Parse(l)
	spoil(first)
	want := parsed(t, busy)
	if !reflect.DeepEqual(second, want) || !reflect.DeepEqual(l, values(busy)) {
		t.Errorf("%+v %+v", second, l)
	}
	for i := range l {
		for j := range l[i].Kids {
			l[i].Kids[j] = api.Value{}
		}
		l[i] = api.Value{}
	}
	if !reflect.DeepEqual(second, want) {
		t.Errorf("%+v", second)
	}
}

// appended: what each list of e has appended to it.
func appended(e api.Expr) {
	_ = append(e.Kids, api.Expr{Kind: -1}, api.Expr{Kind: -1}, api.Expr{Kind: -1})
	for _, k := range e.Kids {
		appended(k)
	}
}

// R2: no two lists of one answer share memory, spare room too.
func TestListsApart(t *testing.T) {
	text := "min(" + busy + "," + busy + ", 1 - (2 * 3) / 4 - 5)"
	e := parsed(t, text)
	appended(e)
	if !reflect.DeepEqual(e, parsed(t, text)) {
		t.Errorf("%+v", e)
	}
	spoil(e.Kids[0])
	if want := parsed(t, text); !reflect.DeepEqual(e.Kids[1:], want.Kids[1:]) {
		t.Errorf("%+v", e.Kids[1:])
	}
}

// R2: what lies behind a list's length is not read.
func TestBehindLength(t *testing.T) {
	l := values("1px 2px")
	told(t, "values", l[:1], length(1))
	refused(t, "no values", l[:0], api.ErrSyntax)
	f := values("calc(1px + 2px)")
	f[0].Kids = f[0].Kids[:1]
	told(t, "Kids", f, length(1))
	f[0].Kids = f[0].Kids[:0]
	refused(t, "no Kids", f, api.ErrSyntax)
	room := []api.Expr{num(1), num(2), {}}
	may(t, "sum", of(api.ESum, room[:2]...), true)
	may(t, "sum", of(api.ESum, room[:0]...), false)
	may(t, "number", api.Expr{Kind: api.ENum, Kids: room[:0]}, true)
	if text, e := Text(of(api.EMin, room[:2]...)); text != "min(1, 2)" || e != api.OK {
		t.Errorf("%q %d", text, e)
	}
	if k, e := Kind(of(api.EMin, append([]api.Expr{num(1)}, length(1))[:1]...)); k != api.KNumber || e != api.OK {
		t.Errorf("%d %d", k, e)
	}
}

// R3: an expression that holds itself, and values that do, come to an end.
func TestHoldsItself(t *testing.T) {
	for kind := api.ESum; kind <= api.EClamp; kind++ {
		for n := 1; n <= 3; n++ {
			kids := make([]api.Expr, n)
			for i := range kids {
				kids[i] = api.Expr{Kind: kind, Kids: kids}
			}
			may(t, kind, kids[0], false)
		}
	}
	l := values("calc(1)")
	l[0].Kids[0] = api.Value{Tok: api.Token{Kind: api.TOpenParen}, Kids: l[0].Kids}
	refused(t, "values", l, api.ErrArg)
}

// R3: long lists, and as deep as they may be, come to an end.
func TestLong(t *testing.T) {
	inner := strings.Repeat("1px*2 - ", 50000) + "3px" + strings.Repeat(" ", 1000)
	e := parsed(t, strings.Repeat("max(", api.MaxNest)+inner+strings.Repeat(")", api.MaxNest))
	kind(t, "deep", e, api.KLength)
	if text, why := Text(e); why != api.OK || len(text) < len(inner) {
		t.Error(len(text), why)
	}
	for range api.MaxNest {
		e = e.Kids[0]
	}
	if len(e.Kids) != 50001 || e.Kids[50000].Kind != api.ENeg {
		t.Error(len(e.Kids))
	}
	spaces := make([]api.Value, 1<<19)
	for i := range spaces {
		spaces[i].Tok.Kind = api.TSpace
	}
	refused(t, "spaces", spaces, api.ErrSyntax)
	spaces[1<<18] = values("1px")[0]
	told(t, "spaces", spaces, length(1))
	refused(t, "spaces", []api.Value{{Tok: api.Token{Kind: api.TFunc, Text: "min"}, Kids: slices.Repeat(spaces[1<<18:], 2)}}, api.ErrSyntax)
	refused(t, "a long name", []api.Value{{Tok: api.Token{Kind: api.TFunc, Text: strings.Repeat("calc", 1<<20)}, Kids: values("1")}}, api.ErrSyntax)
	many := slices.Repeat([]api.Expr{num(1)}, 1<<20)
	many[0] = length(1)
	kind(t, "many", of(api.EProd, many...), api.KLength)
	many[len(many)-1] = length(1)
	kind(t, "many", of(api.EProd, many...), 0)
}

// R6: many at one time tell what one tells alone.
func TestTogether(t *testing.T) {
	l, want := values(busy), parsed(t, busy)
	texts := make([]string, 8)
	var all sync.WaitGroup
	for i := range texts {
		all.Go(func() {
			got, _ := Parse(l)
			kind, _ := Kind(want)
			if reflect.DeepEqual(got, want) && kind == api.KLength {
				texts[i], _ = Text(want)
			}
		})
	}
	all.Wait()
	text, _ := Text(want)
	if text == "" || slices.ContainsFunc(texts, func(s string) bool { return s != text }) {
		t.Error(texts)
	}
}
