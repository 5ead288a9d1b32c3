package sel

import (
	"reflect"
	"slices"
	"strings"
	"sync"
	"testing"

	"jalousie/api"
)

const busy = `a.b#c > [d="e" i]:not(f, .g h):nth-child(2n+1), :is(:where(i) ~ j, k), *`

// parsed: the list of a text, each time anew.
func parsed(t *testing.T, s string) []api.Complex {
	t.Helper()
	l, e := Parse(values(s))
	if e != api.OK {
		t.Fatalf("%q: %d", s, e)
	}
	return l
}

// R2: what is handed in is not changed.
func TestArgumentsStay(t *testing.T) {
	for _, s := range []string{busy, busy + ",", "a >", ":not(a, )", "[a=b j]"} {
		l := values(s)
		Parse(l)
		if !reflect.DeepEqual(l, values(s)) {
			t.Errorf("%q has become %+v", s, l)
		}
	}
	l := parsed(t, busy)
	May(l)
	Text(l)
	Weigh(l[0])
	Weigh(l[1])
	if !reflect.DeepEqual(l, parsed(t, busy)) {
		t.Errorf("%+v", l)
	}
	weights := []api.Weight{{1, 2, 3}, {3, 2, 1}, {2, 2, 2}}
	Most(weights...)
	if !slices.Equal(weights, []api.Weight{{1, 2, 3}, {3, 2, 1}, {2, 2, 2}}) {
		t.Error(weights)
	}
}

// spoil: other values at each place of a list, of those in it, and in their spare room.
func spoil(l []api.Complex) {
	for i := range l {
		for j := range l[i].Parts {
			simples := l[i].Parts[j].Simples
			for k := range simples {
				spoil(simples[k].List)
			}
			for k := range simples[:cap(simples)] {
				simples[:cap(simples)][k] = api.Simple{Kind: -1, Name: "spoilt"}
			}
		}
		parts := l[i].Parts[:cap(l[i].Parts)]
		for j := range parts {
			parts[j].Comb = -1
		}
	}
	for i := range l[:cap(l)] {
		l[:cap(l)][i].Parts = nil
	}
}

// R2: what is told is the caller's own: it hangs on neither what was handed in nor another answer.
func TestAnswersAreNew(t *testing.T) {
	l := values(busy)
	first, _ := Parse(l)
	second, _ := Parse(l)
	spoil(first)
	want := parsed(t, busy)
	if !reflect.DeepEqual(second, want) || !reflect.DeepEqual(l, values(busy)) {
		t.Errorf("%+v %+v", second, l)
	}
	for i := range l {
		l[i] = api.Value{}
	}
	if !reflect.DeepEqual(second, want) {
		t.Errorf("%+v", second)
	}
}

// R2: no two lists of one answer share memory, spare room too.
func TestListsApart(t *testing.T) {
	l := parsed(t, busy+","+busy)
	want := parsed(t, busy+","+busy)
	for i := range l {
		_ = append(l[i].Parts, with(99, tag("spoilt")), with(99, tag("spoilt")))
		for j := range l[i].Parts {
			simples := l[i].Parts[j].Simples
			_ = append(simples, tag("spoilt"), tag("spoilt"))
			for k := range simples {
				_ = append(simples[k].List, side(tag("spoilt")), side(tag("spoilt")))
			}
		}
	}
	if !reflect.DeepEqual(l, want) {
		t.Errorf("%+v", l)
	}
	for i := range l[0].Parts {
		for j := range l[0].Parts[i].Simples {
			l[0].Parts[i].Simples[j].Name = "spoilt"
		}
	}
	if !reflect.DeepEqual(l[1:], want[1:]) {
		t.Errorf("%+v", l[1:])
	}
}

// R2: what lies behind a list's length is not read.
func TestBehindLength(t *testing.T) {
	l := values("a.b")
	for n := range len(l) {
		short := slices.Clip(slices.Clone(l[:n]))
		want, wantErr := Parse(short)
		got, e := Parse(l[:n])
		if e != wantErr || !reflect.DeepEqual(got, want) {
			t.Errorf("%d: %+v %d, not %+v %d", n, got, e, want, wantErr)
		}
	}
	room := append(lone(tag("a")), api.Complex{})
	may(t, "a list", room[:1], true)
	room[0].Parts = append(room[0].Parts, api.Compound{})[:1]
	may(t, "compounds", room[:1], true)
	room[0].Parts[0].Simples = append(room[0].Parts[0].Simples, api.Simple{})[:1]
	may(t, "simple selectors", room[:1], true)
	may(t, "an empty list", room[:0], false)
	weights := []api.Weight{{1, 0, 0}, {2, 0, 0}}
	if Most(weights[:1]...) != weights[0] || Most(weights[:0]...) != (api.Weight{}) {
		t.Error("weights")
	}
}

// R2: nil and empty lists are one.
func TestNilAndEmpty(t *testing.T) {
	bare := lone(tag("a"))
	bare[0].Parts[0].Simples[0].List = []api.Complex{}
	may(t, "no List", bare, true)
	told(t, "no Kids", []api.Value{{Tok: api.Token{Kind: api.TIdent, Text: "a"}, Kids: []api.Value{}}}, side(tag("a")))
	refused(t, "an empty function", rawOf("not", []api.Value{}...), api.ErrSyntax)
	refused(t, "an empty block", []api.Value{{Tok: api.Token{Kind: api.TOpenSquare}, Kids: []api.Value{}}}, api.ErrSyntax)
}

// R3: long lists, and as deep as they may be, come to an end.
func TestLong(t *testing.T) {
	inner := strings.Repeat("a.b>c,", 20000) + "d"
	text := strings.Repeat(":is(", api.MaxNest) + inner + strings.Repeat(")", api.MaxNest)
	l := parsed(t, text)
	if again, e := Text(l); e != api.OK || len(again) < len(text) {
		t.Error(len(again), e)
	}
	weighs(t, "deep", l[0], api.Weight{0, 1, 2})
	name := strings.Repeat("x", 1<<20)
	again(t, "a long name", lone(tag(name), attr(name, api.OpIs, name, false)))
}

// R6: many at one time tell what one tells alone.
func TestTogether(t *testing.T) {
	l, want := values(busy), parsed(t, busy)
	texts := make([]string, 8)
	var all sync.WaitGroup
	for i := range texts {
		all.Go(func() {
			got, _ := Parse(l)
			if reflect.DeepEqual(got, want) && May(want) {
				texts[i], _ = Text(want)
			}
		})
	}
	all.Wait()
	if text, _ := Text(want); slices.ContainsFunc(texts, func(s string) bool { return s != text }) {
		t.Error(texts)
	}
}
