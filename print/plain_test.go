package print

import (
	"math/rand"
	"reflect"
	"slices"
	"testing"

	"jalousie/api"
	"jalousie/rule"
	"jalousie/spell"
)

// A second reading of the chapter, against which the program is held: first what may be, by recursion, then the texts.

func plainOpener(kind int) bool {
	return slices.Contains([]int{api.TFunc, api.TOpenParen, api.TOpenSquare, api.TOpenCurly}, kind)
}

func plainMayValues(l []api.Value, depth int) bool {
	for _, v := range l {
		opens := plainOpener(v.Tok.Kind)
		if !spell.May(v.Tok) || opens && depth == 64 || !opens && len(v.Kids) > 0 || !plainMayValues(v.Kids, depth+1) {
			return false
		}
	}
	return true
}

func plainMayDecls(l []api.Decl) bool {
	for _, d := range l {
		if !spell.May(ident(d.Name)) || !plainMayValues(d.Value, 0) {
			return false
		}
	}
	return true
}

func plainMayRules(l []api.Rule, depth int) bool {
	for _, r := range l {
		var fields bool
		switch r.Kind {
		case 1:
			fields = r.Name == "" && len(r.Rules) == 0
		case 2:
			fields = slices.Contains([]string{"media", "supports", "container"}, r.Name) && len(r.Decls) == 0
		}
		if !fields || depth > 64 || !plainMayValues(r.Prelude, 0) || !plainMayDecls(r.Decls) || !plainMayRules(r.Rules, depth+1) {
			return false
		}
	}
	return true
}

func plainFlat(l []api.Value) (all []api.Token) {
	closers := map[int]int{api.TFunc: api.TCloseParen, api.TOpenParen: api.TCloseParen, api.TOpenSquare: api.TCloseSquare, api.TOpenCurly: api.TCloseCurly}
	for _, v := range l {
		all = append(append(all, v.Tok), plainFlat(v.Kids)...)
		if closer, ok := closers[v.Tok.Kind]; ok {
			all = append(all, one(closer))
		}
	}
	return all
}

// plainText: each token by itself, and /**/ where two must stand apart.
func plainText(l []api.Value) (s string) {
	flat := plainFlat(l)
	for i, token := range flat {
		if i > 0 && spell.Apart(flat[i-1], token) {
			s += "/**/"
		}
		text, _ := spell.Token(token)
		s += text
	}
	return s
}

func plainDecls(l []api.Decl) (s string) {
	for _, d := range l {
		s += plainText(lone(ident(d.Name))) + ":" + plainText(d.Value)
		if d.Important {
			s += " !important"
		}
		s += ";"
	}
	return s
}

func plainRules(l []api.Rule) (s string) {
	for _, r := range l {
		if r.Kind == api.RGroup {
			s += "@" + r.Name + " "
		}
		s += plainText(r.Prelude) + "{" + plainDecls(r.Decls) + plainRules(r.Rules) + "}"
	}
	return s
}

// plain: the text, if it may be.
func plain[T any](may bool, write func([]T) string, l []T) (string, api.Errno) {
	if !may {
		return "", api.ErrArg
	}
	return write(l), api.OK
}

// copyRules: all lists in them made anew, empty ones nil.
func copyRules(l []api.Rule) (all []api.Rule) {
	for _, r := range l {
		var decls []api.Decl
		for _, d := range r.Decls {
			decls = append(decls, api.Decl{Name: d.Name, Value: copyValues(d.Value), Important: d.Important})
		}
		all = append(all, api.Rule{Kind: r.Kind, Name: r.Name, Prelude: copyValues(r.Prelude), Decls: decls, Rules: copyRules(r.Rules)})
	}
	return all
}

func copyValues(l []api.Value) (all []api.Value) {
	for _, v := range l {
		all = append(all, api.Value{Tok: v.Tok, Kids: copyValues(v.Kids)})
	}
	return all
}

// raw makes data as anybody makes them: the greater odd is, the seldomer something that may not be.
type raw struct {
	*rand.Rand
	odd  int
	fine []api.Token
}

func (r raw) rarely() bool { return r.Intn(r.odd) == 0 }

func pick[T any](r raw, l []T) T { return l[r.Intn(len(l))] }

// fine: tokens that may be.
func fine() []api.Token {
	return rule.Flat(values("a -- \\- @media @b #c #1 'd\"' '\n url(e) url(() ! \\\n % 1 -1.5 1% 1e99 1e9 2px 1\\65 3 f() <!-- --> : ; , () [] {} é important"))
}

func (r raw) values(depth int) []api.Value {
	l := []api.Value{}
	for range r.Intn(4) {
		v := api.Value{Tok: pick(r, r.fine)}
		if r.rarely() {
			v.Tok = pick(r, wrong)
		}
		if plainOpener(v.Tok.Kind) && depth > 0 || r.rarely() {
			v.Kids = r.values(depth - 1)
		}
		l = append(l, v)
	}
	if r.rarely() {
		l = chain(pick(r, openers).tok, 60+r.Intn(7), l)
	}
	return l
}

func (r raw) decls() []api.Decl {
	l := []api.Decl{}
	for range r.Intn(3) {
		d := api.Decl{Name: pick(r, names)[0], Value: r.values(2), Important: r.Intn(2) == 0}
		if r.rarely() {
			d.Name = pick(r, wrongNames)
		}
		l = append(l, d)
	}
	return l
}

func (r raw) rules(depth int) []api.Rule {
	l := []api.Rule{}
	for range r.Intn(3) {
		one := api.Rule{Kind: 1 + r.Intn(2), Prelude: r.values(2)}
		if one.Kind == api.RGroup {
			one.Name = pick(r, []string{"media", "supports", "container"})
		}
		if r.rarely() {
			one.Kind = r.Intn(4)
		}
		if r.rarely() {
			one.Name = pick(r, []string{"", "Media", "x", "media"})
		}
		if one.Kind == api.RStyle || r.rarely() {
			one.Decls = r.decls()
		}
		if (one.Kind == api.RGroup || r.rarely()) && depth > 0 {
			one.Rules = r.rules(depth - 1)
		}
		l = append(l, one)
	}
	if r.rarely() {
		l = groups(60+r.Intn(7), l)
	}
	return l
}

// P6.1 to P6.4: raw data against the second reading; and R2: they stay as they are.
func TestRaw(t *testing.T) {
	may, tokens := [2]int{}, fine()
	for seed := range 30000 {
		r := raw{rand.New(rand.NewSource(int64(seed))), []int{6, 60, 600}[seed%3], tokens}
		v, d, l := r.values(3), r.decls(), r.rules(3)
		before := copyRules(l)
		got, e := Values(v)
		want, wantErr := plain(plainMayValues(v, 0), plainText, v)
		told(t, v, got, e, want, wantErr)
		got, e = Decls(d)
		want, wantErr = plain(plainMayDecls(d), plainDecls, d)
		told(t, d, got, e, want, wantErr)
		got, e = Rules(l)
		want, wantErr = plain(plainMayRules(l, 1), plainRules, l)
		told(t, l, got, e, want, wantErr)
		may[min(e, 1)]++
		other := r.rules(1)
		if !Same(l, before) || Same(l, other) != reflect.DeepEqual(before, copyRules(other)) {
			t.Errorf("%v, %v: Same", l, other)
		}
		if !reflect.DeepEqual(copyRules(l), before) {
			t.Errorf("%v has become %v", before, l)
		}
		if t.Failed() {
			t.FailNow()
		}
	}
	if may[0] < 5000 || may[1] < 5000 {
		t.Error("too few of a kind:", may)
	}
}

// R2: what lies behind a list's length is neither read nor written.
func TestBehindLength(t *testing.T) {
	bad := api.Value{Tok: one(99), Kids: lone(one(98))}
	prelude := []api.Value{{Tok: one(api.TOpenParen), Kids: append(lone(ident("a")), bad)[:1]}, bad}
	decls := []api.Decl{{Name: "b", Value: prelude[:1]}, {Name: "\xff", Value: []api.Value{bad}}}
	rules := []api.Rule{{Kind: api.RStyle, Prelude: prelude[:1], Decls: decls[:1]}, {Kind: 99}}
	rules[0].Rules = []api.Rule{{Kind: 98}}[:0]
	l := []api.Rule{{Kind: api.RGroup, Name: "media", Rules: rules[:1], Decls: decls[:0]}, {Kind: 97}}
	before := copyRules(l)
	got, e := Rules(l[:1])
	told(t, "rules", got, e, "@media {(a){b:(a);}}", api.OK)
	got, e = Decls(decls[:1])
	told(t, "declarations", got, e, "b:(a);", api.OK)
	got, e = Values(prelude[:1])
	told(t, "values", got, e, "(a)", api.OK)
	again := copyRules(before[:1])
	if !Same(l[:1], again) || !Same(again, l[:1]) {
		t.Error("Same reads what is behind")
	}
	if !reflect.DeepEqual(copyRules(l), before) || rules[1].Kind != 99 || rules[0].Rules[:1][0].Kind != 98 || decls[1].Name != "\xff" || !reflect.DeepEqual(prelude[1], bad) || !reflect.DeepEqual(prelude[0].Kids[:2][1], bad) {
		t.Error("what is behind is written")
	}
}
