package env

import (
	"math"
	"slices"
	"strings"
	"testing"

	"jalousie/api"
	"jalousie/rat"
)

var over = api.Rat{}

func whole(n int64) api.Rat { return api.Rat{Num: n, Den: 1} }

func part(num, den int64) api.Rat { return api.Rat{Num: num, Den: den} }

// sizes: those that may be.
func sizes() []api.Rat {
	return []api.Rat{whole(0), whole(1), whole(300), part(1, 2), part(801, 2), whole(math.MaxInt64), part(1, math.MaxInt64), part(math.MaxInt64, 2)}
}

// notSizes: over; below 0; not in lowest terms; what is no fraction.
func notSizes() []api.Rat {
	return []api.Rat{over, whole(-1), part(-1, 2), part(-1, math.MaxInt64), whole(-math.MaxInt64), whole(math.MinInt64),
		part(2, 4), part(0, 2), part(800, 800), part(1, 0), part(-1, 0), part(1, -1), part(-1, -1), part(0, -1), part(math.MinInt64, 2), part(1, math.MinInt64), part(math.MinInt64, math.MinInt64)}
}

var numbers = []string{"width", "height", "aspect-ratio", "color"}

var worded = []string{"hover", "orientation", "pointer", "prefers-color-scheme", "prefers-reduced-motion"}

// noFeatures: names that no feature has.
func noFeatures() []string {
	l := []string{"", " ", "x", "-", "min-width", "max-height", "device-width", "wi", "widthx", " width", "width ", "width\x00", "h\xff", "monochrome", "none", "light", "Print", "W", "Scheme", strings.Repeat("hover", 500)}
	for _, name := range slices.Concat(numbers, worded) {
		l = append(l, strings.ToUpper(name), strings.ToUpper(name[:1])+name[1:], name[1:], name[:len(name)-1], name+name)
	}
	return l
}

// unlike: environments that may be, no field of one the same as another's, but the words where there are only two.
func unlike() []api.Env {
	return []api.Env{
		New(),
		{Print: true, W: whole(300), H: whole(400), Font: part(1, 2), Color: whole(0), Scheme: "dark", Hover: "none", Pointer: "none", Motion: "reduce"},
		{W: part(5, 3), H: part(5, 3), Font: whole(0), Color: whole(math.MaxInt64), Scheme: "light", Hover: "none", Pointer: "coarse", Motion: "reduce"},
		{Print: true, W: whole(5), H: whole(0), Font: part(1, math.MaxInt64), Color: whole(1), Scheme: "dark", Hover: "hover", Pointer: "fine", Motion: "no-preference"},
		{W: whole(0), H: whole(0), Font: whole(math.MaxInt64), Color: whole(24), Scheme: "dark", Hover: "hover", Pointer: "none", Motion: "reduce"},
	}
}

// barred: environments that may not be, for one field each.
func barred() []api.Env {
	l := []api.Env{{}, {Print: true}}
	for _, e := range unlike() {
		for _, r := range notSizes() {
			for _, at := range []func(*api.Env) *api.Rat{
				func(e *api.Env) *api.Rat { return &e.W },
				func(e *api.Env) *api.Rat { return &e.H },
				func(e *api.Env) *api.Rat { return &e.Font },
				func(e *api.Env) *api.Rat { return &e.Color },
			} {
				bad := e
				*at(&bad) = r
				l = append(l, bad)
			}
		}
		for _, r := range []api.Rat{part(1, 2), part(17, 2), part(1, math.MaxInt64)} {
			bad := e
			bad.Color = r
			l = append(l, bad)
		}
		for _, word := range []string{"", "x", "LIGHT", "Hover", "reduced", "light ", "coarse\x00", "no preference", "orientation", "landscape", "width"} {
			for _, at := range []func(*api.Env) *string{
				func(e *api.Env) *string { return &e.Scheme },
				func(e *api.Env) *string { return &e.Hover },
				func(e *api.Env) *string { return &e.Pointer },
				func(e *api.Env) *string { return &e.Motion },
			} {
				bad := e
				*at(&bad) = word
				l = append(l, bad)
			}
		}
		// The words of other features.
		for _, change := range []func(*api.Env){
			func(e *api.Env) { e.Hover = "fine" },
			func(e *api.Env) { e.Hover = "coarse" },
			func(e *api.Env) { e.Pointer = "hover" },
			func(e *api.Env) { e.Scheme = "none" },
			func(e *api.Env) { e.Scheme = "hover" },
			func(e *api.Env) { e.Motion = "none" },
			func(e *api.Env) { e.Motion = "dark" },
		} {
			bad := e
			change(&bad)
			l = append(l, bad)
		}
	}
	return l
}

// is: that the change has answered this environment, with OK.
func is(t *testing.T, what string, got api.Env, why api.Errno, want api.Env) {
	t.Helper()
	if why != api.OK || got != want {
		t.Errorf("%s: %+v, %d; want %+v", what, got, why, want)
	}
}

// fails: that the change has this error, and beside it nothing.
func fails(t *testing.T, what string, got api.Env, why, want api.Errno) {
	t.Helper()
	if why != want || got != (api.Env{}) {
		t.Errorf("%s: %+v, %d; want error %d", what, got, why, want)
	}
}

// The chapter's table of examples.
func TestExamples(t *testing.T) {
	e, why := View(New(), whole(300), whole(400))
	w, ok1 := Value(e, "width")
	a, ok2 := Value(e, "aspect-ratio")
	o, ok3 := Word(e, "orientation")
	if why != api.OK || w != whole(300) || a != part(3, 4) || o != "portrait" || !ok1 || !ok2 || !ok3 {
		t.Error(why, w, a, o)
	}
	e, why = View(New(), whole(-1), whole(1))
	fails(t, "View(-1, 1)", e, why, api.ErrSize)
	e, why = View(New(), over, whole(1))
	fails(t, "View(over, 1)", e, why, api.ErrSize)
	e, why = Color(New(), part(1, 2))
	fails(t, "Color(1/2)", e, why, api.ErrSize)
	want := New()
	want.Hover = "none"
	e, why = Turn(New(), "hover", "none")
	is(t, "Turn(hover, none)", e, why, want)
	e, why = Turn(New(), "orientation", "portrait")
	fails(t, "Turn(orientation, portrait)", e, why, api.ErrFeature)
	e, why = Turn(New(), "hover", "HOVER")
	fails(t, "Turn(hover, HOVER)", e, why, api.ErrFeature)
	e, _ = View(New(), whole(5), whole(0))
	if a, ok := Value(e, "aspect-ratio"); a != over || !ok {
		t.Error(a, ok)
	}
}

// P16.1
func TestNew(t *testing.T) {
	want := api.Env{W: whole(800), H: whole(600), Font: whole(16), Color: whole(8), Scheme: "light", Hover: "hover", Pointer: "fine", Motion: "no-preference"}
	if New() != want || !May(New()) {
		t.Errorf("%+v", New())
	}
}

// P16.1
func TestMay(t *testing.T) {
	for _, e := range unlike() {
		if !May(e) {
			t.Errorf("%+v", e)
		}
	}
	for _, r := range sizes() {
		e := New()
		e.W, e.H, e.Font = r, r, r
		if !May(e) {
			t.Errorf("%+v", e)
		}
		e.Color = r
		if May(e) != (r.Den == 1) {
			t.Errorf("%+v", e)
		}
	}
	l := barred()
	for _, e := range l {
		if May(e) {
			t.Errorf("%+v", e)
		}
	}
	if len(l) < 500 {
		t.Error("few:", len(l))
	}
}

// P16.2
func TestView(t *testing.T) {
	for _, e := range unlike() {
		for _, w := range sizes() {
			for _, h := range sizes() {
				want := e
				want.W, want.H = w, h
				got, why := View(e, w, h)
				is(t, "View", got, why, want)
			}
			for _, h := range notSizes() {
				got, why := View(e, w, h)
				fails(t, "View", got, why, api.ErrSize)
				got, why = View(e, h, w)
				fails(t, "View", got, why, api.ErrSize)
				got, why = View(e, h, h)
				fails(t, "View", got, why, api.ErrSize)
			}
		}
	}
}

// P16.2
func TestFont(t *testing.T) {
	for _, e := range unlike() {
		for _, r := range sizes() {
			want := e
			want.Font = r
			got, why := Font(e, r)
			is(t, "Font", got, why, want)
		}
		for _, r := range notSizes() {
			got, why := Font(e, r)
			fails(t, "Font", got, why, api.ErrSize)
		}
	}
}

// P16.2
func TestColor(t *testing.T) {
	for _, e := range unlike() {
		for _, r := range []api.Rat{whole(0), whole(1), whole(24), whole(math.MaxInt64)} {
			want := e
			want.Color = r
			got, why := Color(e, r)
			is(t, "Color", got, why, want)
		}
		for _, r := range append(notSizes(), part(1, 2), part(17, 2), part(math.MaxInt64, 2), part(1, math.MaxInt64)) {
			got, why := Color(e, r)
			fails(t, "Color", got, why, api.ErrSize)
		}
	}
}

// P16.2
func TestPrint(t *testing.T) {
	for _, e := range unlike() {
		for _, on := range []bool{false, true} {
			want := e
			want.Print = on
			got, why := Print(e, on)
			is(t, "Print", got, why, want)
		}
	}
}

// P16.2: each feature, each of its words.
func TestTurn(t *testing.T) {
	for _, e := range unlike() {
		for _, c := range []struct {
			name, word string
			set        func(*api.Env)
		}{
			{"hover", "none", func(e *api.Env) { e.Hover = "none" }},
			{"hover", "hover", func(e *api.Env) { e.Hover = "hover" }},
			{"pointer", "none", func(e *api.Env) { e.Pointer = "none" }},
			{"pointer", "coarse", func(e *api.Env) { e.Pointer = "coarse" }},
			{"pointer", "fine", func(e *api.Env) { e.Pointer = "fine" }},
			{"prefers-color-scheme", "light", func(e *api.Env) { e.Scheme = "light" }},
			{"prefers-color-scheme", "dark", func(e *api.Env) { e.Scheme = "dark" }},
			{"prefers-reduced-motion", "no-preference", func(e *api.Env) { e.Motion = "no-preference" }},
			{"prefers-reduced-motion", "reduce", func(e *api.Env) { e.Motion = "reduce" }},
		} {
			want := e
			c.set(&want)
			got, why := Turn(e, c.name, c.word)
			is(t, "Turn "+c.name+" "+c.word, got, why, want)
		}
	}
}

// P16.2: words in capitals, of another feature, empty; names of no such feature; orientation.
func TestTurnOfWhatIsNone(t *testing.T) {
	words := []string{"", " ", "none", "hover", "coarse", "fine", "light", "dark", "no-preference", "reduce", "portrait", "landscape", "print", "screen", "1", "nonehover", "none hover", "\xff", "non", "darkk"}
	for _, e := range unlike() {
		for _, name := range slices.Concat(noFeatures(), numbers, []string{"orientation"}) {
			for _, word := range words {
				got, why := Turn(e, name, word)
				fails(t, "Turn "+name+" "+word, got, why, api.ErrFeature)
			}
		}
		for _, name := range worded {
			for _, word := range words {
				got, why := Turn(e, name, strings.ToUpper(word)+"A")
				fails(t, "Turn "+name, got, why, api.ErrFeature)
				if slices.Contains(Words(name), word) {
					got, why = Turn(e, name, strings.ToUpper(word))
					fails(t, "Turn "+name, got, why, api.ErrFeature)
					continue
				}
				got, why = Turn(e, name, word)
				fails(t, "Turn "+name+" "+word, got, why, api.ErrFeature)
			}
		}
	}
}

// P16.2: ErrArg ahead of the call's own error; and where there is none beside it.
func TestEnvironmentFirst(t *testing.T) {
	for _, e := range barred() {
		for _, r := range []api.Rat{whole(1), whole(-1), over, part(1, 2), part(2, 4)} {
			got, why := View(e, r, whole(1))
			fails(t, "View", got, why, api.ErrArg)
			got, why = View(e, whole(1), r)
			fails(t, "View", got, why, api.ErrArg)
			got, why = Font(e, r)
			fails(t, "Font", got, why, api.ErrArg)
			got, why = Color(e, r)
			fails(t, "Color", got, why, api.ErrArg)
		}
		for _, on := range []bool{false, true} {
			got, why := Print(e, on)
			fails(t, "Print", got, why, api.ErrArg)
		}
		for _, c := range [][2]string{{"hover", "none"}, {"pointer", "fine"}, {"prefers-color-scheme", "light"}, {"prefers-reduced-motion", "reduce"}, {"hover", "HOVER"}, {"orientation", "portrait"}, {"width", "1"}, {"", ""}} {
			got, why := Turn(e, c[0], c[1])
			fails(t, "Turn", got, why, api.ErrArg)
		}
	}
}

// P16.3
func TestValue(t *testing.T) {
	for _, e := range unlike() {
		for _, c := range []struct {
			name string
			want api.Rat
		}{{"width", e.W}, {"height", e.H}, {"aspect-ratio", rat.Div(e.W, e.H)}, {"color", e.Color}} {
			if got, ok := Value(e, c.name); got != c.want || !ok {
				t.Errorf("%s of %+v: %v %v", c.name, e, got, ok)
			}
		}
		for _, name := range slices.Concat(noFeatures(), worded) {
			if got, ok := Value(e, name); got != over || ok {
				t.Errorf("%s: %v %v", name, got, ok)
			}
		}
	}
	for _, e := range barred() {
		for _, name := range slices.Concat(numbers, worded, []string{"", "x"}) {
			if got, ok := Value(e, name); got != over || ok {
				t.Errorf("%s of %+v: %v %v", name, e, got, ok)
			}
		}
	}
}

// P16.3: a ratio may be over, and is told all the same.
func TestAspectRatio(t *testing.T) {
	for _, c := range []struct{ w, h, want api.Rat }{
		{whole(800), whole(600), part(4, 3)},
		{whole(7), whole(7), whole(1)},
		{whole(0), whole(7), whole(0)},
		{whole(7), whole(0), over},
		{whole(0), whole(0), over},
		{part(1, 2), part(1, 3), part(3, 2)},
		{whole(math.MaxInt64), part(1, 2), over},
		{part(1, math.MaxInt64), whole(2), over},
		{whole(1), part(1, math.MaxInt64), whole(math.MaxInt64)},
	} {
		e, _ := View(New(), c.w, c.h)
		if got, ok := Value(e, "aspect-ratio"); got != c.want || !ok {
			t.Errorf("%v by %v: %v %v", c.w, c.h, got, ok)
		}
	}
}

// P16.3
func TestWord(t *testing.T) {
	for _, e := range unlike() {
		for _, c := range [][2]string{{"hover", e.Hover}, {"pointer", e.Pointer}, {"prefers-color-scheme", e.Scheme}, {"prefers-reduced-motion", e.Motion}} {
			if got, ok := Word(e, c[0]); got != c[1] || !ok {
				t.Errorf("%s of %+v: %s %v", c[0], e, got, ok)
			}
		}
		for _, name := range slices.Concat(noFeatures(), numbers) {
			if got, ok := Word(e, name); got != "" || ok {
				t.Errorf("%s: %s %v", name, got, ok)
			}
		}
	}
	for _, e := range barred() {
		for _, name := range slices.Concat(numbers, worded, []string{"", "x"}) {
			if got, ok := Word(e, name); got != "" || ok {
				t.Errorf("%s of %+v: %s %v", name, e, got, ok)
			}
		}
	}
}

// P16.3: a window stands, if H is at least W.
func TestOrientation(t *testing.T) {
	const most = math.MaxInt64
	for _, c := range []struct {
		w, h api.Rat
		want string
	}{
		{whole(800), whole(600), "landscape"},
		{whole(600), whole(800), "portrait"},
		{whole(5), whole(5), "portrait"},
		{whole(0), whole(0), "portrait"},
		{whole(0), whole(1), "portrait"},
		{whole(5), whole(0), "landscape"},
		{part(1, 2), part(1, 3), "landscape"},
		{part(1, 3), part(1, 2), "portrait"},
		{part(2, 3), part(2, 3), "portrait"},
		{part(most, most-1), part(most-1, most-2), "portrait"},
		{part(most-1, most-2), part(most, most-1), "landscape"},
		{whole(most), whole(most - 1), "landscape"},
		{whole(most), part(1, 2), "landscape"}, // the ratio is over
		{part(1, 2), whole(most), "portrait"},
	} {
		e, why := View(New(), c.w, c.h)
		if got, ok := Word(e, "orientation"); why != api.OK || got != c.want || !ok {
			t.Errorf("%v by %v: %s %v", c.w, c.h, got, ok)
		}
	}
}

// P16.3: in the table's order.
func TestWords(t *testing.T) {
	for _, c := range [][2]string{
		{"hover", "none hover"},
		{"orientation", "portrait landscape"},
		{"pointer", "none coarse fine"},
		{"prefers-color-scheme", "light dark"},
		{"prefers-reduced-motion", "no-preference reduce"},
	} {
		if got := strings.Join(Words(c[0]), " "); got != c[1] {
			t.Errorf("%s: %s", c[0], got)
		}
	}
	for _, name := range slices.Concat(noFeatures(), numbers) {
		if got := Words(name); len(got) != 0 {
			t.Errorf("%s: %v", name, got)
		}
	}
}

// P16.4
func TestCtx(t *testing.T) {
	for _, e := range unlike() {
		if got := Ctx(e); got != (api.Ctx{Font: e.Font, Root: e.Font, W: e.W, H: e.H, Cw: over, Ch: over}) {
			t.Errorf("%+v: %+v", e, got)
		}
	}
	for _, e := range barred() {
		if got := Ctx(e); got != (api.Ctx{}) {
			t.Errorf("%+v: %+v", e, got)
		}
	}
}
