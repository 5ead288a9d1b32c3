package norm

import (
	"reflect"
	"slices"
	"sync"
	"testing"

	"jalousie/api"
)

const busy = "calc(min(1px, max(1em, 2px + 1vw)) * -2 + clamp(1rem, 2em, 3px) - (max(1px, 1em) + min(1vw, 1vh)))"

// formed: the form of a text, each time anew.
func formed(t *testing.T, s string) api.Form {
	t.Helper()
	f, why := Form(expr(t, s))
	if why != api.OK {
		t.Fatal(s, why)
	}
	return f
}

// calls: what each call that tells a form tells of this one.
func calls(f api.Form) []api.Form {
	return []api.Form{Add(f), Add(f, f), Add(f, Zero(), f), Scale(f, whole(1)), Scale(f, whole(-3)), Scale(f, over), Pick(true, f), Pick(false, f, f), Pick(true, f, Zero(), f)}
}

// loose: a form with parts of one form, which Form does not tell.
func loose() api.Form {
	inner := with(units(whole(1)), least(units(whole(1)), units(whole(0), whole(1))))
	return with(units(whole(2)), most(inner), least(inner, inner), least(with(units(), least(inner))))
}

// R2: what is handed in is not changed.
func TestArgumentsStay(t *testing.T) {
	e := expr(t, busy)
	Form(e)
	Number(e)
	if !reflect.DeepEqual(e, expr(t, busy)) {
		t.Errorf("%+v", e)
	}
	f := formed(t, busy)
	calls(f)
	May(f)
	Uses(f)
	Same(f, f)
	is(t, "form", f, formed(t, busy))
	f = clone(loose())
	calls(f)
	is(t, "loose", f, loose())
	l := []api.Form{formed(t, busy), units(whole(1)), loose()}
	Add(l...)
	Pick(true, l...)
	Pick(false, l[:1]...)
	if !reflect.DeepEqual(l, []api.Form{formed(t, busy), units(whole(1)), loose()}) {
		t.Errorf("%+v", l)
	}
}

// spoil: other values at each place of the lists of f, and in their spare room.
func spoil(f api.Form) {
	for _, p := range f.Parts {
		for _, a := range p.Args {
			spoil(a)
		}
		room := p.Args[:cap(p.Args)]
		for i := range room {
			room[i] = api.Form{}
		}
	}
	room := f.Parts[:cap(f.Parts)]
	for i := range room {
		room[i] = api.Part{}
	}
}

// R2: what is told is the caller's own: it hangs on neither what was handed in nor another answer.
func TestAnswersAreNew(t *testing.T) {
	spoil(formed(t, busy))
	for _, make := range []func() api.Form{func() api.Form { return formed(t, busy) }, func() api.Form { return clone(loose()) }} {
		f := make()
		first, second, want := calls(f), calls(f), calls(make())
		for i := range first {
			spoil(first[i])
			is(t, i, f, make())
			is(t, i, second[i], want[i])
		}
		spoil(f)
		for i := range second {
			is(t, i, second[i], want[i])
		}
	}
	e := expr(t, busy)
	f, _ := Form(e)
	for i := range e.Kids {
		e.Kids[i] = api.Expr{}
	}
	is(t, "form", f, formed(t, busy))
	l := []api.Form{units(whole(1)), units(whole(0), whole(1))}
	p := Pick(true, l...)
	l[0], l[1] = api.Form{}, api.Form{}
	is(t, "pick", p, with(units(), most(units(whole(1)), units(whole(0), whole(1)))))
}

// lists: where each list of f begins, and its room.
func lists(f api.Form) [][2]uintptr {
	at := func(v any, size uintptr) [2]uintptr {
		r := reflect.ValueOf(v)
		return [2]uintptr{r.Pointer(), r.Pointer() + uintptr(r.Cap())*size}
	}
	var l [][2]uintptr
	if cap(f.Parts) > 0 {
		l = append(l, at(f.Parts, reflect.TypeFor[api.Part]().Size()))
	}
	for _, p := range f.Parts {
		l = append(l, at(p.Args, reflect.TypeFor[api.Form]().Size()))
		for _, a := range p.Args {
			l = append(l, lists(a)...)
		}
	}
	return l
}

// apart: no two lists of f share memory, spare room too.
func apart(t *testing.T, what any, f api.Form) {
	t.Helper()
	l := lists(f)
	for i, a := range l {
		for _, b := range l[i+1:] {
			if a[0] < b[1] && b[0] < a[1] {
				t.Fatalf("%v: %x %x", what, a, b)
			}
		}
	}
}

// R2: no two lists of one answer share memory.
func TestListsApart(t *testing.T) {
	apart(t, "form", formed(t, busy))
	apart(t, "twice", formed(t, "max("+busy+", "+busy+", 1px, calc("+busy+" - "+busy+"))"))
	for _, f := range []api.Form{formed(t, busy), loose(), nestForm(20, units(over))} {
		for i, g := range calls(f) {
			apart(t, i, g)
		}
	}
	d := roll(7)
	for i := range 2000 {
		f, _ := Form(d.expr(2+i%4, true, d.rat))
		apart(t, i, f)
		for j, g := range calls(d.form(2, d.rat)) {
			apart(t, []int{i, j}, g)
		}
	}
}

// R2: what lies behind a list's length is neither read nor written.
func TestBehindLength(t *testing.T) {
	a, b := units(whole(1)), units(whole(0), whole(1))
	parts := []api.Part{least(a, b), {}, {}}
	args := []api.Form{a, b, {Parts: []api.Part{{}}}}
	f := units(whole(3))
	f.Parts = parts[:1]
	g := with(units(), most(a))
	g.Parts[0].Args = args[:2]
	for _, x := range []api.Form{f, g} {
		if !May(x) || Uses(x) != 6 || !Same(x, clone(x)) {
			t.Error(May(x), Uses(x))
		}
		for i, y := range calls(x) {
			is(t, i, y, calls(clone(x))[i])
		}
	}
	is(t, "forms", Add(args[:2]...), units(whole(1), whole(1)))
	is(t, "forms", Pick(true, args[:1]...), a)
	_ = append(Pick(true, args[:2]...).Parts[0].Args, api.Form{})
	if !reflect.DeepEqual(parts[1:], []api.Part{{}, {}}) || !reflect.DeepEqual(args[2], api.Form{Parts: []api.Part{{}}}) {
		t.Error(parts, args)
	}
	kids := []api.Expr{px(1), px(2), {}}
	told(t, "kids", of(api.ESum, kids[:2]...), units(whole(3)))
	told(t, "kids", of(api.EProd, kids[:1]...), units(whole(1)))
	if Same(f, with(f, least(a))) {
		t.Error("behind the length")
	}
}

// R3: a form that holds itself comes to an end.
func TestHoldsItself(t *testing.T) {
	for n := 1; n <= 3; n++ {
		for place := range n {
			f, g := units(whole(1)), units(whole(1))
			for _, x := range []*api.Form{&f, &g} {
				args := slices.Repeat([]api.Form{units()}, n)
				x.Parts = []api.Part{{Args: args}}
				args[place] = *x
			}
			if May(f) || Uses(f) != 0 {
				t.Error(n, place)
			}
			Same(f, g)
			Same(f, f)
			is(t, n, Add(f, f), units())
			is(t, n, Scale(f, whole(2)), units())
			is(t, n, Pick(false, f, f), units())
		}
	}
	kids := make([]api.Expr, 2)
	kids[0], kids[1] = of(api.EMin, kids...), of(api.EMin, kids...)
	refused(t, "kids", of(api.EMin, kids...), api.ErrArg, api.ErrArg)
}

// R3, P12.4: Same goes as deep as anything that is handed in.
func TestSameDeep(t *testing.T) {
	down := func(n int, f api.Form) api.Form {
		for range n {
			f = with(units(), least(f))
		}
		return f
	}
	a, b, c := down(1<<16, units()), down(1<<16, units()), down(1<<16, units(whole(1)))
	if !Same(a, b) || Same(a, c) || May(a) {
		t.Error(Same(a, b), Same(a, c), May(a))
	}
}

// R3: long lists come to an end.
func TestLong(t *testing.T) {
	const n = 1 << 17
	kids := make([]api.Expr, n)
	for i := range kids {
		kids[i] = length(whole(1), 1+i%7)
	}
	f, why := Form(of(api.ESum, kids...))
	if why != api.OK || f.Units[0] != whole((n+6)/7) || len(f.Parts) > 0 {
		t.Error(f, why)
	}
	f, _ = Form(of(api.ENeg, of(api.EMin, kids...)))
	if len(f.Parts) != 1 || len(f.Parts[0].Args) != n || !f.Parts[0].Max || f.Parts[0].Args[n-1].Units[(n-1)%7] != whole(-1) {
		t.Error(len(f.Parts))
	}
	if !May(f) || Uses(f) != 254 || !Same(Scale(f, whole(1)), f) || !Same(Add(f), f) {
		t.Error(May(f), Uses(f))
	}
	for i := range kids {
		kids[i] = num(int64(1 - i%2*2))
	}
	kids[n-2] = of(api.EMax, px(1), length(whole(1), api.UEm))
	told(t, "product", of(api.EProd, kids...), with(units(), most(units(whole(1)), units(whole(0), whole(1)))))
	// A length at the end of products in one another, and scalings in one another.
	deep := of(api.EMin, px(1), length(whole(1), api.UEm))
	for range 112 {
		deep = of(api.EProd, of(api.ESum, num(1), num(0)), num(1), of(api.ENeg, of(api.ENeg, deep)))
	}
	told(t, "deep", deep, with(units(), least(units(whole(1)), units(whole(0), whole(1)))))
}

// R6: many at one time tell what one tells alone.
func TestTogether(t *testing.T) {
	e, want := expr(t, busy), formed(t, busy)
	good := make([]bool, 8)
	var all sync.WaitGroup
	for i := range good {
		all.Go(func() {
			f, _ := Form(e)
			good[i] = Same(f, want) && Same(Scale(f, whole(1)), want) && Uses(f) == Uses(want) && Same(Add(want, f), Add(f, want))
		})
	}
	all.Wait()
	if slices.Contains(good, false) {
		t.Error(good)
	}
}
