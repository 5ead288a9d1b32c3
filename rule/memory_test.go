package rule

import (
	"reflect"
	"slices"
	"strings"
	"testing"

	"jalousie/api"
)

// block is the memory of a list, its spare room too.
type block struct{ from, to uintptr }

func blockOf(l any) block {
	v := reflect.ValueOf(l)
	return block{v.Pointer(), v.Pointer() + uintptr(v.Cap())*v.Type().Elem().Size()}
}

func valueBlocks(l []api.Value) []block {
	all := []block{blockOf(l)}
	for _, v := range l {
		all = append(all, valueBlocks(v.Kids)...)
	}
	return all
}

func declBlocks(l []api.Decl) []block {
	all := []block{blockOf(l)}
	for _, d := range l {
		all = append(all, valueBlocks(d.Value)...)
	}
	return all
}

func ruleBlocks(l []api.Rule) []block {
	all := []block{blockOf(l)}
	for _, r := range l {
		all = append(all, valueBlocks(r.Prelude)...)
		all = append(all, declBlocks(r.Decls)...)
		all = append(all, ruleBlocks(r.Rules)...)
	}
	return all
}

func pieceBlocks(l [][]api.Value) []block {
	all := []block{blockOf(l)}
	for _, p := range l {
		all = append(all, valueBlocks(p)...)
	}
	return all
}

// apart: R2: no two of them share memory.
func apart(t *testing.T, call string, l []block) {
	t.Helper()
	l = slices.DeleteFunc(l, func(b block) bool { return b.from == b.to })
	slices.SortFunc(l, func(a, b block) int {
		if a.from < b.from {
			return -1
		}
		return 1
	})
	for i := 1; i < len(l); i++ {
		if l[i].from < l[i-1].to {
			t.Errorf("%s: two lists share memory", call)
		}
	}
}

const busy = " a , b ( c , [ d ] ) , e { f : g ! important ; h:{i}!important;j: } @media k ( l ) { m { n : o } p{} @supports(q){r{s:t}} } , "

// R2: what is told is new memory.
func TestNewMemory(t *testing.T) {
	l := tokens(busy)
	own := blockOf(l)
	v := Values(l)
	apart(t, "Values", append(valueBlocks(v), own))
	apart(t, "Flat", append(valueBlocks(v), blockOf(Flat(v))))
	apart(t, "Trim", append(valueBlocks(v), valueBlocks(Trim(v))...))
	apart(t, "Split", append(valueBlocks(v), pieceBlocks(Split(v))...))
	apart(t, "Decls", append(declBlocks(Decls(l)), own))
	apart(t, "Decls", append(declBlocks(Decls(tokens("f : g ! important ; h:{i(j)k} !important;j: "))), own))
	apart(t, "Rules", append(ruleBlocks(Rules(l)), own))
	apart(t, "two of Trim", append(valueBlocks(Trim(v)), valueBlocks(Trim(v))...))
	trimmed := values("a([{(b)}])")
	apart(t, "Trim of what is trimmed", append(valueBlocks(trimmed), valueBlocks(Trim(trimmed))...))
	// a list that is empty has spare room of its own
	room := make([]api.Value, 3)
	empty := []api.Value{{Tok: one(api.TOpenParen), Kids: room[:0]}}
	apart(t, "Trim of an empty block", append(append(valueBlocks(Trim(empty)), blockOf(room)), valueBlocks(Split(empty)[0])...))
	apart(t, "Trim of nothing", append(valueBlocks(Trim(room[:0])), blockOf(room)))
	apart(t, "Split of nothing", append(pieceBlocks(Split(room[:0])), blockOf(room)))
}

// deepCopy by recursion: what the arguments were.
func deepCopy(l []api.Value) []api.Value {
	var all []api.Value
	for _, v := range l {
		all = append(all, api.Value{Tok: v.Tok, Kids: deepCopy(v.Kids)})
	}
	return all
}

// R2: what is handed in is not changed, neither by the call nor through its answer.
func TestArgumentsStay(t *testing.T) {
	v := values(busy)
	before := deepCopy(v)
	spoil := func(l []api.Value) {
		for i := range l {
			for k := range l[i].Kids {
				l[i].Kids[k] = leaf(99)
			}
			l[i] = leaf(99)
		}
	}
	spoil(Trim(v))
	for _, p := range Split(v) {
		spoil(p)
	}
	flat := Flat(v)
	for i := range flat {
		flat[i] = one(99)
	}
	May(v)
	if !reflect.DeepEqual(v, before) {
		t.Error(show(v))
	}
	b := []byte("A{B:C}")
	Sheet(b)
	if string(b) != "A{B:C}" {
		t.Errorf("%q", b)
	}
}

// R2: what lies behind a list's length is neither read nor written.
func TestBehindLength(t *testing.T) {
	l := tokens("a ( b , c ) {")
	for n := range l {
		short := slices.Clone(l[:n])
		for _, behind := range []api.Token{one(api.TCloseParen), one(api.TSpace), one(api.TComma), one(99)} {
			long := append(slices.Clone(short), behind, behind)
			if !reflect.DeepEqual(Values(long[:n]), Values(short)) || !reflect.DeepEqual(Rules(long[:n]), Rules(short)) || !reflect.DeepEqual(Decls(long[:n]), Decls(short)) {
				t.Errorf("%d: what is behind is read", n)
			}
			if long[n] != behind || long[n+1] != behind {
				t.Errorf("%d: what is behind is written", n)
			}
		}
	}
	v := []api.Value{leaf(api.TSpace), under(api.TOpenParen, leaf(api.TIdent), leaf(99)), leaf(api.TSpace), leaf(99), leaf(99)}
	v[1].Kids = v[1].Kids[:1]
	short := v[:3]
	want := []api.Value{under(api.TOpenParen, leaf(api.TIdent))}
	if !May(short) || !reflect.DeepEqual(Trim(short), want) || !reflect.DeepEqual(Split(short), [][]api.Value{want}) || len(Flat(short)) != 5 {
		t.Error("what is behind is read")
	}
	if !reflect.DeepEqual(v[3:], []api.Value{leaf(99), leaf(99)}) || !reflect.DeepEqual(v[1].Kids[:2][1], leaf(99)) {
		t.Error("what is behind is written")
	}
}

// R2, R3: nil and empty lists are one.
func TestNothing(t *testing.T) {
	for _, l := range [][]api.Token{nil, {}} {
		if len(Values(l)) != 0 || len(Decls(l)) != 0 || len(Rules(l)) != 0 {
			t.Error("of nothing comes nothing")
		}
	}
	for _, l := range [][]api.Value{nil, {}} {
		if len(Flat(l)) != 0 || !May(l) || len(Trim(l)) != 0 || len(Split(l)) != 1 || len(Split(l)[0]) != 0 {
			t.Error("of nothing comes nothing")
		}
	}
}

// R3: openers in one another as deep as the limits let them be, and lists that are long.
func TestFar(t *testing.T) {
	const far = 1 << 16
	for _, kind := range []int{api.TFunc, api.TOpenParen, api.TOpenSquare, api.TOpenCurly} {
		l := slices.Repeat([]api.Token{one(kind)}, far)
		v := Values(l)
		depth := 0
		for list := v; len(list) > 0; list = list[0].Kids {
			depth++
		}
		flat := Flat(v)
		if depth != far || len(flat) != 2*far || flat[far] != one(closerKinds[kind]) || May(v) {
			t.Error(depth, len(flat))
		}
		if got := Flat(Trim(v)); !slices.Equal(got, flat) {
			t.Error(len(got))
		}
		if got := Split(v); len(got) != 1 || len(got[0]) != 1 {
			t.Error(len(got))
		}
		closed := slices.Concat(tokens("a:"), flat, tokens(";b:c"))
		if got := Decls(closed); showDecls(got) != "b=c;" {
			t.Error(len(got))
		}
		if got := Rules(slices.Concat(flat, tokens("{}b{}"))); showRules(got[len(got)-1:]) != "b{}" {
			t.Error(len(got))
		}
	}
	groups := tokens(strings.Repeat("@media x{", far))
	if got := Rules(groups); len(got) != 1 || strings.Count(showRules(got), "@media") != api.MaxNest {
		t.Error(len(got))
	}
	if got := Rules(tokens(strings.Repeat("a{b:c}", far))); len(got) != far {
		t.Error(len(got))
	}
	if got := Decls(tokens(strings.Repeat("b:c;", far))); len(got) != far {
		t.Error(len(got))
	}
	if got := Split(values(strings.Repeat(",", far))); len(got) != far+1 {
		t.Error(len(got))
	}
}

// R6: the same again.
func TestSameAgain(t *testing.T) {
	l := tokens(busy)
	for range 3 {
		if !reflect.DeepEqual(Rules(l), Rules(l)) || !reflect.DeepEqual(Values(l), values(busy)) {
			t.Error("another answer")
		}
	}
}
