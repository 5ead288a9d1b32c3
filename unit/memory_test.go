package unit

import (
	"reflect"
	"slices"
	"sync"
	"testing"

	"jalousie/api"
	"jalousie/norm"
)

const busy = "calc(min(1px, max(1em, 2px + 1vw)) * -2 + clamp(1rem, 2em, 3px) - (max(1px, 1em) + min(1vw, 1vh)) / 2)"

// R2: what is handed in is not changed, nor what lies behind a list's length.
func TestArgumentsStay(t *testing.T) {
	e := expr(t, busy)
	Direct(e, usual)
	Length(e, usual)
	if !reflect.DeepEqual(e, expr(t, busy)) {
		t.Errorf("%+v", e)
	}
	f, _ := norm.Form(e)
	Px(f, usual)
	if g, _ := norm.Form(e); !norm.Same(f, g) {
		t.Errorf("%+v", f)
	}
	args := []api.Form{units(whole(3)), one(api.UEm, whole(1)), {Parts: []api.Part{{}}}}
	parts := []api.Part{{Max: true, Args: args[:2]}, {}, {}}
	g := units(whole(1))
	g.Parts = parts[:1]
	is(t, "behind", Px(g, usual), whole(17))
	kids := []api.Expr{px(1), em(2), {}}
	both(t, "behind", of(api.ESum, kids[:2]...), usual, whole(33))
	if !reflect.DeepEqual(kids[2], api.Expr{}) || !reflect.DeepEqual(parts[1:], []api.Part{{}, {}}) || !reflect.DeepEqual(args[2], api.Form{Parts: []api.Part{{}}}) {
		t.Error(kids, parts, args)
	}
}

// R2: names that are told are the caller's own, spare room too.
func TestNamesAreNew(t *testing.T) {
	want := []string{"px", "rem", "vw", "vh", "cqh"}
	const mask = 1<<api.UPx | 1<<api.URem | 1<<api.UVw | 1<<api.UVh | 1<<api.UCqh
	first, second := Names(mask), Names(mask)
	room := first[:cap(first)]
	for i := range room {
		room[i] = "spoilt"
	}
	if !slices.Equal(second, want) || !slices.Equal(Names(mask), want) {
		t.Error(second, Names(mask))
	}
}

// R3: what holds itself comes to an end.
func TestHoldsItself(t *testing.T) {
	for n := 1; n <= 3; n++ {
		for place := range n {
			f := units(whole(1))
			args := slices.Repeat([]api.Form{units()}, n)
			f.Parts = []api.Part{{Args: args}}
			args[place] = f
			is(t, []int{n, place}, Px(f, usual), over)
		}
	}
	kids := make([]api.Expr, 2)
	kids[0], kids[1] = of(api.EMin, kids...), of(api.EMin, kids...)
	refused(t, "kids", of(api.EMin, kids...), api.ErrArg, api.ErrArg)
}

// R3: long lists come to an end.
func TestLong(t *testing.T) {
	const n = 7 << 14
	kids := make([]api.Expr, n)
	for i := range kids {
		kids[i] = length(whole(1), 1+i%7)
	}
	both(t, "sum", of(api.ESum, kids...), usual, whole(48<<14))
	both(t, "least", of(api.EMin, kids...), usual, whole(1))
	both(t, "most", of(api.ENeg, of(api.EMax, kids...)), usual, whole(-16))
	for i := range kids {
		kids[i] = num(int64(1 - i%2*2))
	}
	kids[n-2] = of(api.EMax, px(1), em(1))
	both(t, "product", of(api.EProd, kids...), usual, whole(16))
}

// R6: many at one time tell what one tells alone.
func TestTogether(t *testing.T) {
	e := expr(t, busy)
	want, _ := Length(e, usual)
	good := make([]bool, 8)
	var all sync.WaitGroup
	for i := range good {
		all.Go(func() {
			a, _ := Direct(e, usual)
			b, _ := Length(e, usual)
			good[i] = a == want && b == want && len(Names(255)) == 7 && Size(api.UVw, usual) == whole(10)
		})
	}
	all.Wait()
	if want == over || slices.Contains(good, false) {
		t.Error(want, good)
	}
}
