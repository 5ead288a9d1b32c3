package prop

import (
	"reflect"
	"slices"
	"strings"
	"sync"
	"testing"

	"jalousie/api"
)

const busy = " calc(1px - 2em * 3 / (4 - 5)) "

const used = " f(a [b var(--a, 1px (c)) ]) 2 "

// spoilExpr: other values at each place of the lists of e, and in their spare room.
func spoilExpr(e api.Expr) {
	for _, kid := range e.Kids {
		spoilExpr(kid)
	}
	room := e.Kids[:cap(e.Kids)]
	for i := range room {
		room[i] = api.Expr{Kind: -1}
	}
}

// spoilValues: other values in l, and in what stands in it.
func spoilValues(l []api.Value) {
	for i := range l {
		spoilValues(l[i].Kids)
		l[i] = api.Value{Tok: api.Token{Kind: -1}}
	}
}

// R2: what is handed in is not changed.
func TestArgumentsStay(t *testing.T) {
	for _, s := range []string{busy, used, "AUTO", " Inherit ", "0", "1 2", "a;b", "var(b)", "(\"\n)"} {
		l := values(s)
		for _, name := range namesAsked {
			Parse(name, l)
			Supports(name, l)
		}
		Vars(l)
		if !reflect.DeepEqual(l, values(s)) {
			t.Errorf("%q has become %s", s, spellOf(l))
		}
	}
}

// R2: names and words that are told are the caller's own, spare room too.
func TestTablesAreNew(t *testing.T) {
	l := Names()
	room := l[:cap(l)]
	for i := range room {
		room[i] = "spoilt"
	}
	for i, want := range facts() {
		p, _ := Spec(want.Name)
		other, _ := Spec(want.Name)
		room := p.Words[:cap(p.Words)]
		for i := range room {
			room[i] = "spoilt"
		}
		again, ok := Spec(want.Name)
		if !ok || !reflect.DeepEqual(again, want) || !reflect.DeepEqual(other, want) || Names()[i] != want.Name || Place(want.Name) != i {
			t.Errorf("%+v %+v", other, again)
		}
		for _, word := range want.Words {
			reads(t, want.Name, word, worded(word))
		}
		refused(t, want.Name, values("spoilt"), api.ErrSyntax)
	}
}

// R2: declared values hang on neither what was handed in nor another answer.
func TestValuesAreNew(t *testing.T) {
	for _, s := range []string{busy, used, "0", "auto", "inherit"} {
		for _, name := range []string{"width", "--a"} {
			l := values(s)
			want, _ := Parse(name, values(s))
			first, _ := Parse(name, l)
			second, _ := Parse(name, l)
			spoilExpr(first.Expr)
			room := first.Tokens[:cap(first.Tokens)]
			for i := range room {
				room[i] = api.Token{Kind: -1}
			}
			if !reflect.DeepEqual(second, want) || !reflect.DeepEqual(l, values(s)) {
				t.Errorf("%q: %s, %s", s, valOf(second), spellOf(l))
			}
			spoilValues(l)
			if !reflect.DeepEqual(second, want) {
				t.Errorf("%q: %s", s, valOf(second))
			}
		}
	}
}

// R2: what lies behind a list's length is neither read nor written.
func TestBehindTheLength(t *testing.T) {
	behind := append(values("1px"), values("] var() ;")...)
	whole := slices.Clone(behind)
	reads(t, "width", "1px", sized(frac(1, 1), api.UPx))
	told(t, "width", behind[:1], sized(frac(1, 1), api.UPx))
	kids := append(values("--a"), values("b ]")...)
	use := []api.Value{{Tok: api.Token{Kind: api.TFunc, Text: "var"}, Kids: kids[:1]}}
	told(t, "width", use, api.Val{Kind: api.VVars, Tokens: tokens("var(--a)")})
	if Vars(append(values("a"), values("var(--a)")...)[:1]) {
		t.Error("a use behind the end")
	}
	if !reflect.DeepEqual(behind, whole) || !reflect.DeepEqual(kids, append(values("--a"), values("b ]")...)) {
		t.Error(spellOf(behind), spellOf(kids))
	}
	room := make([]api.Value, 0, 4)
	told(t, "--a", room, api.Val{Kind: api.VVars})
	if !reflect.DeepEqual(room[:4], make([]api.Value, 4)) {
		t.Error(room[:4])
	}
}

// R3: what holds itself comes to an end.
func TestHoldsItself(t *testing.T) {
	for _, kind := range []int{api.TFunc, api.TOpenParen, api.TIdent, 0} {
		for n := 1; n <= 3; n++ {
			l := make([]api.Value, n)
			for i := range l {
				l[i] = api.Value{Tok: api.Token{Kind: kind, Text: "f"}, Kids: l}
			}
			Vars(l)
			for _, name := range named() {
				if v, why := Parse(name, l); why != api.ErrArg || !reflect.DeepEqual(v, api.Val{}) || Supports(name, l) {
					t.Error(kind, n, name, why)
				}
			}
			if _, why := Parse("--", l); why != api.ErrName {
				t.Error(kind, n, why)
			}
		}
	}
	// A use ahead of what holds itself is found.
	l := make([]api.Value, 2)
	l[0], l[1] = values("var()")[0], api.Value{Tok: api.Token{Kind: api.TOpenCurly}, Kids: l}
	if !Vars(l) {
		t.Error("no use")
	}
}

// R3: long lists come to an end.
func TestLong(t *testing.T) {
	const n = 20000
	for _, s := range []string{"a ", "(a)", "f(a b)", "var(--a)", "var(--a,b)[c]"} {
		l := values(strings.Repeat(s, n))
		want := strings.TrimRight(strings.Repeat(s, n), " ")
		told(t, "--a", l, api.Val{Kind: api.VVars, Tokens: tokens(want)})
		use := strings.HasPrefix(s, "var")
		if Vars(l) != use || Supports("width", l) != use {
			t.Error(s)
		}
		refused(t, "--a", append(l, values("]")...), api.ErrSyntax)
		refused(t, "--a", append(l, values("var()")...), api.ErrSyntax)
		refused(t, "--a", append(l, api.Value{}), api.ErrArg)
	}
	spaces := strings.Repeat(" /**/", n)
	reads(t, "width", spaces+"Auto"+spaces, worded("auto"))
	keeps(t, "width", "var("+spaces+"--a"+spaces+")", "var("+spaces+"--a"+spaces+")")
	barred(t, "width", strings.Repeat("a", n), "1"+strings.Repeat("x", n))
	terms := "calc(1px" + strings.Repeat(" + 1px", n) + ")"
	calculated(t, "width", terms)
}

// R6: many at one time tell what one tells alone.
func TestTogether(t *testing.T) {
	l, uses := values(busy), values(used)
	want, _ := Parse("width", l)
	wantUses, _ := Parse("color", uses)
	good := make([]bool, 8)
	var all sync.WaitGroup
	for i := range good {
		all.Go(func() {
			good[i] = true
			for range 50 {
				a, _ := Parse("width", l)
				b, _ := Parse("color", uses)
				p, _ := Spec("color")
				good[i] = good[i] && reflect.DeepEqual(a, want) && reflect.DeepEqual(b, wantUses) && len(p.Words) == 6 && Place("width") == 13 && len(Names()) == 14 && Vars(uses) && !Vars(l)
			}
		})
	}
	all.Wait()
	if want.Kind != api.VExpr || wantUses.Kind != api.VVars || slices.Contains(good, false) {
		t.Error(valOf(want), valOf(wantUses), good)
	}
}
