package print

import (
	"fmt"
	"math"
	"slices"
	"testing"

	"jalousie/api"
)

// full: rules with something in every field, made anew at each call. Not all of them may be.
func full() []api.Rule {
	token := func() api.Token {
		return api.Token{Kind: api.TDim, Text: "px", Num: api.Rat{Num: 3, Den: 2}, Int: true, Id: true}
	}
	list := func() []api.Value {
		inner := []api.Value{{Tok: token()}, {Tok: ident("k")}}
		return []api.Value{{Tok: token()}, {Tok: one(api.TOpenParen), Kids: []api.Value{{Tok: ident("j"), Kids: inner}}}}
	}
	decls := func() []api.Decl {
		return []api.Decl{{Name: "a", Value: list(), Important: true}, {Name: "b", Value: list()}}
	}
	r := api.Rule{Kind: api.RGroup, Name: "media", Prelude: list(), Decls: decls()}
	r.Rules = []api.Rule{{Kind: api.RStyle, Prelude: list(), Decls: decls()}, {Kind: api.RGroup, Name: "supports", Prelude: list(), Decls: decls(), Rules: []api.Rule{{Kind: api.RStyle, Decls: decls()}}}}
	return []api.Rule{r, {Kind: api.RStyle, Prelude: list()}}
}

// change is one way to make rules others.
type change struct {
	what string
	make func([]api.Rule)
}

// valueChanges: each single field of the tokens of a list, and the list itself.
func valueChanges(what string, list func([]api.Rule) *[]api.Value) []change {
	in := func(l []api.Rule) []api.Value { return *list(l) }
	return []change{
		{what + ": a token's Kind", func(l []api.Rule) { in(l)[0].Tok.Kind = api.TNumber }},
		{what + ": a token's Text", func(l []api.Rule) { in(l)[0].Tok.Text = "Px" }},
		{what + ": a token's Num.Num", func(l []api.Rule) { in(l)[0].Tok.Num.Num = 5 }},
		{what + ": a token's Num.Den", func(l []api.Rule) { in(l)[0].Tok.Num.Den = 4 }},
		{what + ": a token's Int", func(l []api.Rule) { in(l)[0].Tok.Int = false }},
		{what + ": a token's Id", func(l []api.Rule) { in(l)[0].Tok.Id = false }},
		{what + ": an opener", func(l []api.Rule) { in(l)[1].Tok.Kind = api.TOpenSquare }},
		{what + ": a kid", func(l []api.Rule) { in(l)[1].Kids[0].Tok.Text = "J" }},
		{what + ": a kid's kid", func(l []api.Rule) { in(l)[1].Kids[0].Kids[1].Tok.Text = "K" }},
		{what + ": a kid's kid's Id", func(l []api.Rule) { in(l)[1].Kids[0].Kids[0].Tok.Id = false }},
		{what + ": a kid less", func(l []api.Rule) { in(l)[1].Kids[0].Kids = in(l)[1].Kids[0].Kids[:1] }},
		{what + ": a kid more", func(l []api.Rule) { in(l)[1].Kids = append(in(l)[1].Kids, api.Value{}) }},
		{what + ": no kids", func(l []api.Rule) { in(l)[1].Kids = nil }},
		{what + ": Kids where none are", func(l []api.Rule) { in(l)[0].Kids = []api.Value{{}} }},
		{what + ": one less", func(l []api.Rule) { *list(l) = in(l)[:1] }},
		{what + ": one less in front", func(l []api.Rule) { *list(l) = in(l)[1:] }},
		{what + ": one more", func(l []api.Rule) { *list(l) = append(in(l), api.Value{}) }},
		{what + ": none", func(l []api.Rule) { *list(l) = nil }},
		{what + ": another order", func(l []api.Rule) { slices.Reverse(in(l)) }},
		{what + ": kids, flat", func(l []api.Rule) {
			kids := in(l)[1].Kids
			in(l)[1].Kids = nil
			*list(l) = append(in(l), kids...)
		}},
	}
}

// ruleChanges: each single field of a rule, at some place.
func ruleChanges(what string, at func([]api.Rule) *api.Rule) []change {
	all := []change{
		{what + ": Kind", func(l []api.Rule) { at(l).Kind = 7 }},
		{what + ": Name", func(l []api.Rule) { at(l).Name += "x" }},
		{what + ": a declaration's Name", func(l []api.Rule) { at(l).Decls[1].Name = "B" }},
		{what + ": Important, set", func(l []api.Rule) { at(l).Decls[1].Important = true }},
		{what + ": Important, taken away", func(l []api.Rule) { at(l).Decls[0].Important = false }},
		{what + ": a declaration less", func(l []api.Rule) { at(l).Decls = at(l).Decls[:1] }},
		{what + ": a declaration more", func(l []api.Rule) { at(l).Decls = append(at(l).Decls, api.Decl{}) }},
		{what + ": no declarations", func(l []api.Rule) { at(l).Decls = nil }},
		{what + ": declarations in another order", func(l []api.Rule) { slices.Reverse(at(l).Decls) }},
		{what + ": a rule more", func(l []api.Rule) { at(l).Rules = append(at(l).Rules, api.Rule{}) }},
	}
	all = append(all, valueChanges(what+": Prelude", func(l []api.Rule) *[]api.Value { return &at(l).Prelude })...)
	all = append(all, valueChanges(what+": the first Value", func(l []api.Rule) *[]api.Value { return &at(l).Decls[0].Value })...)
	return append(all, valueChanges(what+": the last Value", func(l []api.Rule) *[]api.Value { return &at(l).Decls[1].Value })...)
}

// P6.4: a difference in each single field, at the top and within.
func TestSameDiffers(t *testing.T) {
	changes := []change{
		{"a rule less in a group", func(l []api.Rule) { l[0].Rules = l[0].Rules[:1] }},
		{"a group without its rules", func(l []api.Rule) { l[0].Rules = nil }},
		{"rules of a group in another order", func(l []api.Rule) { slices.Reverse(l[0].Rules) }},
		{"rules in another order", func(l []api.Rule) { slices.Reverse(l) }},
		{"the last rule's Kind", func(l []api.Rule) { l[1].Kind = 0 }},
		{"a rule deeper within", func(l []api.Rule) { l[0].Rules[1].Rules[0].Kind = 0 }},
		{"a declaration deeper within", func(l []api.Rule) { l[0].Rules[1].Rules[0].Decls[1].Important = true }},
	}
	changes = append(changes, ruleChanges("a rule", func(l []api.Rule) *api.Rule { return &l[0] })...)
	changes = append(changes, ruleChanges("a rule within", func(l []api.Rule) *api.Rule { return &l[0].Rules[0] })...)
	changes = append(changes, ruleChanges("a group within", func(l []api.Rule) *api.Rule { return &l[0].Rules[1] })...)
	seen := map[string]string{}
	for _, c := range changes {
		l := full()
		c.make(l)
		if Same(full(), l) || Same(l, full()) {
			t.Errorf("%s: no difference is told", c.what)
		}
		again := full()
		c.make(again)
		if !Same(l, again) {
			t.Errorf("%s: a difference is told where none is", c.what)
		}
		text := fmt.Sprintf("%#v", l)
		if seen[text] != "" {
			t.Errorf("the test says one thing twice: %s, %s", c.what, seen[text])
		}
		seen[text] = c.what
	}
}

// P6.4: whatever they are.
func TestSame(t *testing.T) {
	if !Same(full(), full()) {
		t.Error("made alike")
	}
	l := full()
	if !Same(l, l) || Same(l, l[:1]) || Same(l[:1], l) || Same(l, l[1:]) || Same(l, nil) || Same(nil, l) || Same(nil, []api.Rule{{}}) {
		t.Error("parts of one list")
	}
	for _, odd := range []api.Rule{{}, {Kind: math.MinInt}, {Kind: 99, Name: "\xff\x00"}, {Prelude: lone(one(math.MaxInt))}, {Prelude: lone(api.Token{Text: "\xc3", Num: api.Rat{Num: math.MinInt64, Den: -1}})}, {Decls: []api.Decl{{}}}, {Rules: []api.Rule{{}}}, {Prelude: under(ident("a"), api.Value{})}} {
		copied := odd
		copied.Prelude = slices.Clone(odd.Prelude)
		if !Same([]api.Rule{odd}, []api.Rule{copied}) {
			t.Errorf("%v is not itself", odd)
		}
		if Same([]api.Rule{odd}, full()) || Same([]api.Rule{odd}, nil) || Same([]api.Rule{odd, odd}, []api.Rule{odd}) {
			t.Errorf("%v is something else", odd)
		}
	}
	// fractions that may not be are held against each other as they stand
	half := func(num, den int64) []api.Rule {
		return []api.Rule{{Kind: api.RStyle, Prelude: lone(api.Token{Kind: api.TNumber, Num: api.Rat{Num: num, Den: den}})}}
	}
	if Same(half(1, 2), half(2, 4)) || Same(half(0, 0), half(1, 0)) || !Same(half(2, 4), half(2, 4)) {
		t.Error("fractions")
	}
}

// P6.4: nil lists against empty ones, each by itself.
func TestSameNothing(t *testing.T) {
	none, room := []api.Rule{}, make([]api.Rule, 0, 3)
	if !Same(nil, nil) || !Same(nil, none) || !Same(none, nil) || !Same(none, room) || !Same(room, nil) {
		t.Error("no rules")
	}
	bare := func() []api.Rule {
		return []api.Rule{{Kind: api.RStyle, Prelude: lone(ident("a")), Decls: []api.Decl{{Name: "b"}}}, {Kind: api.RGroup, Rules: []api.Rule{{}}}}
	}
	for i, empty := range []func([]api.Rule){
		func(l []api.Rule) { l[0].Prelude[0].Kids = []api.Value{} },
		func(l []api.Rule) { l[0].Decls[0].Value = []api.Value{} },
		func(l []api.Rule) { l[0].Rules = []api.Rule{} },
		func(l []api.Rule) { l[1].Prelude = make([]api.Value, 0, 4) },
		func(l []api.Rule) { l[1].Decls = []api.Decl{} },
		func(l []api.Rule) {
			l[1].Rules[0] = api.Rule{Prelude: []api.Value{}, Decls: []api.Decl{}, Rules: []api.Rule{}}
		},
	} {
		l := bare()
		empty(l)
		if !Same(bare(), l) || !Same(l, bare()) {
			t.Errorf("%d: an empty list is another than nil", i)
		}
	}
}

// R3, P6.4: as deep as the limits let them be.
func TestSameFar(t *testing.T) {
	const far = 1 << 16
	a, b := groups(far, nil), groups(far, nil)
	if !Same(a, b) || Same(a, groups(far-1, nil)) || Same(a, groups(far, []api.Rule{{}})) {
		t.Error("rules")
	}
	in := func(l []api.Value) []api.Rule {
		return []api.Rule{{Prelude: l, Decls: []api.Decl{{Value: l}}}}
	}
	paren := one(api.TOpenParen)
	if !Same(in(chain(paren, far, nil)), in(chain(paren, far, nil))) || Same(in(chain(paren, far, nil)), in(chain(paren, far+1, nil))) || Same(in(chain(paren, far, nil)), in(chain(paren, far, lone(paren)))) || Same(in(chain(paren, far, lone(ident("a")))), in(chain(paren, far, lone(ident("b"))))) {
		t.Error("values")
	}
	if e := func() api.Errno { _, e := Rules(a); return e }(); e != api.ErrArg {
		t.Error(e)
	}
}
