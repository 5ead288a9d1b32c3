package env

import (
	"math/big"
	"math/rand"
	"reflect"
	"strings"
	"testing"

	"jalousie/api"
	"jalousie/rat"
)

// A second reading of the chapter: its table as it stands there, fields by their names, sizes by wide numbers.

const chapter = `
| hover | none hover | Hover |
| orientation | portrait landscape | portrait, if H is at least W, else landscape |
| pointer | none coarse fine | Pointer |
| prefers-color-scheme | light dark | Scheme |
| prefers-reduced-motion | no-preference reduce | Motion |
`

type plainRow struct {
	words []string
	field string // "": none of its own
}

func plainTable() map[string]plainRow {
	rows := map[string]plainRow{}
	for line := range strings.Lines(strings.TrimSpace(chapter)) {
		cells := strings.Split(line, "|")
		row := plainRow{words: strings.Fields(cells[2])}
		if f := strings.TrimSpace(cells[3]); !strings.Contains(f, " ") {
			row.field = f
		}
		rows[strings.TrimSpace(cells[1])] = row
	}
	return rows
}

// wide: the number, if r may be and is not over.
func wide(r api.Rat) *big.Rat {
	if r.Den < 1 {
		return nil
	}
	n := big.NewRat(r.Num, r.Den)
	if n.Num().Cmp(big.NewInt(r.Num)) != 0 || n.Denom().Cmp(big.NewInt(r.Den)) != 0 || r.Num == -r.Num && r.Num != 0 {
		return nil
	}
	return n
}

func plainSize(r api.Rat) bool { n := wide(r); return n != nil && n.Sign() >= 0 }

func plainBits(r api.Rat) bool { return plainSize(r) && wide(r).IsInt() }

func named(e *api.Env, field string) reflect.Value {
	return reflect.ValueOf(e).Elem().FieldByName(field)
}

func plainMay(e api.Env) bool {
	for _, f := range []string{"W", "H", "Font", "Color"} {
		if !plainSize(named(&e, f).Interface().(api.Rat)) {
			return false
		}
	}
	for _, row := range plainTable() {
		if row.field != "" && !strings.Contains(" "+strings.Join(row.words, " ")+" ", " "+named(&e, row.field).String()+" ") {
			return false
		}
	}
	return wide(e.Color).IsInt()
}

func plainWord(e api.Env, name string) (string, bool) {
	row, ok := plainTable()[name]
	switch {
	case !ok || !plainMay(e):
		return "", false
	case row.field != "":
		return named(&e, row.field).String(), true
	case wide(e.H).Cmp(wide(e.W)) >= 0:
		return "portrait", true
	}
	return "landscape", true
}

func plainValue(e api.Env, name string) (api.Rat, bool) {
	if !plainMay(e) {
		return api.Rat{}, false
	}
	switch name {
	case "width":
		return e.W, true
	case "height":
		return e.H, true
	case "color":
		return e.Color, true
	case "aspect-ratio":
		if wide(e.H).Sign() == 0 {
			return api.Rat{}, true
		}
		q := new(big.Rat).Quo(wide(e.W), wide(e.H))
		if !q.Num().IsInt64() || !q.Denom().IsInt64() {
			return api.Rat{}, true
		}
		return api.Rat{Num: q.Num().Int64(), Den: q.Denom().Int64()}, true
	}
	return api.Rat{}, false
}

// change: one of the five calls, and what it changes.
type change struct {
	kind  string
	a, b  api.Rat
	on    bool
	name  string
	word  string
	after api.Errno // of an environment that may be
}

func (c change) do(e api.Env) (api.Env, api.Errno) {
	switch c.kind {
	case "View":
		return View(e, c.a, c.b)
	case "Font":
		return Font(e, c.a)
	case "Color":
		return Color(e, c.a)
	case "Print":
		return Print(e, c.on)
	}
	return Turn(e, c.name, c.word)
}

// plain: what the change answers, by the second reading.
func (c change) plain(e api.Env) (api.Env, api.Errno) {
	if !plainMay(e) {
		return api.Env{}, api.ErrArg
	}
	if !c.fine() {
		if c.kind == "Turn" {
			return api.Env{}, api.ErrFeature
		}
		return api.Env{}, api.ErrSize
	}
	for field, v := range c.fields() {
		named(&e, field).Set(reflect.ValueOf(v))
	}
	return e, api.OK
}

func (c change) fine() bool {
	switch c.kind {
	case "View":
		return plainSize(c.a) && plainSize(c.b)
	case "Font":
		return plainSize(c.a)
	case "Color":
		return plainBits(c.a)
	case "Print":
		return true
	}
	row, ok := plainTable()[c.name]
	return ok && row.field != "" && strings.Contains("|"+strings.Join(row.words, "|")+"|", "|"+c.word+"|") && c.word != ""
}

func (c change) fields() map[string]any {
	switch c.kind {
	case "View":
		return map[string]any{"W": c.a, "H": c.b}
	case "Font", "Color":
		return map[string]any{c.kind: c.a}
	case "Print":
		return map[string]any{"Print": c.on}
	}
	return map[string]any{plainTable()[c.name].field: c.word}
}

// touches: the features whose value or word the change may change.
func (c change) touches() []string {
	switch c.kind {
	case "View":
		return []string{"width", "height", "aspect-ratio", "orientation"}
	case "Font", "Print":
		return nil
	case "Color":
		return []string{"color"}
	}
	return []string{c.name}
}

func pick[T any](r *rand.Rand, l []T) T { return l[r.Intn(len(l))] }

func someSize(r *rand.Rand) api.Rat {
	switch r.Intn(10) {
	case 0:
		return pick(r, notSizes())
	case 1, 2:
		return rat.Of(int64(r.Intn(4)), int64(1+r.Intn(4)))
	case 3, 4:
		return rat.Of(r.Int63(), 1+r.Int63n(1<<uint(1+r.Intn(60))))
	}
	return pick(r, sizes())
}

var allWords = strings.Fields("none hover portrait landscape coarse fine light dark no-preference reduce HOVER print 1")

func someChange(r *rand.Rand) change {
	c := change{kind: pick(r, []string{"View", "Font", "Color", "Print", "Turn", "Turn", "Turn"})}
	c.a, c.b, c.on = someSize(r), someSize(r), r.Intn(2) == 0
	if r.Intn(3) == 0 {
		c.a = whole(int64(r.Intn(30)))
	}
	c.name = pick(r, worded)
	c.word = pick(r, plainTable()[c.name].words)
	switch r.Intn(8) {
	case 0:
		c.word = pick(r, allWords)
	case 1:
		c.name = pick(r, append(noFeatures(), numbers...))
	}
	return c
}

func someEnv(r *rand.Rand) api.Env {
	e := New()
	for range r.Intn(12) {
		if next, why := someChange(r).do(e); why == api.OK {
			e = next
		}
	}
	if r.Intn(4) == 0 {
		e = pick(r, barred())
	}
	return e
}

// Each call against the second reading, on environments that may be and on others.
func TestAgainstAPlainReading(t *testing.T) {
	r := rand.New(rand.NewSource(1))
	names := append(append([]string{"", "x", "Width"}, numbers...), worded...)
	seen := map[api.Errno]int{}
	for range 6000 {
		e, c := someEnv(r), someChange(r)
		got, why := c.do(e)
		want, whyNot := c.plain(e)
		if got != want || why != whyNot {
			t.Fatalf("%+v of %+v: %+v, %d; want %+v, %d", c, e, got, why, want, whyNot)
		}
		seen[why]++
		if May(e) != plainMay(e) {
			t.Fatalf("%+v", e)
		}
		for _, name := range names {
			v, ok := Value(e, name)
			if w, o := plainValue(e, name); v != w || ok != o {
				t.Fatalf("%s of %+v: %v %v", name, e, v, ok)
			}
			s, ok := Word(e, name)
			if w, o := plainWord(e, name); s != w || ok != o {
				t.Fatalf("%s of %+v: %s %v", name, e, s, ok)
			}
		}
	}
	for _, why := range []api.Errno{api.OK, api.ErrArg, api.ErrSize, api.ErrFeature} {
		if seen[why] < 300 {
			t.Error("few:", why, seen[why])
		}
	}
}

// Every environment of a few values in each field against the second reading of May.
func TestMayOfAll(t *testing.T) {
	some := []api.Rat{over, whole(-1), whole(0), whole(7), part(1, 2), part(2, 4)}
	words := []string{"", "none", "hover", "fine", "dark", "reduce", "Dark"}
	may := 0
	e := api.Env{Print: true}
	for _, e.W = range some {
		for _, e.H = range some {
			for _, e.Font = range some {
				for _, e.Color = range some {
					for _, e.Scheme = range words[3:] {
						for _, e.Hover = range words {
							e.Pointer, e.Motion = "coarse", "reduce"
							if May(e) != plainMay(e) {
								t.Fatalf("%+v", e)
							}
							if May(e) {
								may++
							}
						}
					}
				}
			}
		}
	}
	if may != 3*3*3*2*2 {
		t.Error(may)
	}
}

// look: all that Value and Word tell.
func look(e api.Env) map[string]string {
	all := map[string]string{}
	for _, name := range numbers {
		v, _ := Value(e, name)
		all[name] = rat.Text(v)
	}
	for _, name := range worded {
		all[name], _ = Word(e, name)
	}
	return all
}

// P16.5: what a change answers may be; twice is once; it leaves what other features tell alone.
func TestLawsOfOneChange(t *testing.T) {
	r := rand.New(rand.NewSource(2))
	fine := 0
	for range 6000 {
		e, c := someEnv(r), someChange(r)
		one, why := c.do(e)
		if why != api.OK {
			continue
		}
		fine++
		if !May(one) {
			t.Fatalf("%+v of %+v: %+v", c, e, one)
		}
		if two, why := c.do(one); two != one || why != api.OK {
			t.Fatalf("%+v of %+v: %+v, then %+v, %d", c, e, one, two, why)
		}
		was, now := look(e), look(one)
		for _, name := range c.touches() {
			delete(was, name)
			delete(now, name)
		}
		if !reflect.DeepEqual(was, now) {
			t.Fatalf("%+v of %+v: %v, %v", c, e, was, now)
		}
		ctx := Ctx(e)
		switch c.kind {
		case "View":
			ctx.W, ctx.H = c.a, c.b
		case "Font":
			ctx.Font, ctx.Root = c.a, c.a
		}
		if Ctx(one) != ctx {
			t.Fatalf("%+v of %+v: %+v", c, e, Ctx(one))
		}
	}
	if fine < 2000 {
		t.Error("few:", fine)
	}
}

// P16.5: changes of unlike fields may change places.
func TestLawsOfTwoChanges(t *testing.T) {
	r := rand.New(rand.NewSource(3))
	fine, same := 0, 0
	for range 12000 {
		e, a, b := someEnv(r), someChange(r), someChange(r)
		ab, whyA := a.do(e)
		ab, whyB := b.do(ab)
		if whyA != api.OK || whyB != api.OK {
			continue
		}
		if a.kind == b.kind && (a.kind != "Turn" || a.name == b.name) {
			if last, _ := b.do(e); ab != last {
				t.Fatalf("%+v, %+v of %+v: %+v", a, b, e, ab)
			}
			same++
			continue
		}
		fine++
		ba, _ := b.do(e)
		if ba, _ = a.do(ba); ba != ab {
			t.Fatalf("%+v, %+v of %+v: %+v, %+v", a, b, e, ab, ba)
		}
	}
	if fine < 1500 || same < 300 {
		t.Error("few:", fine, same)
	}
}
