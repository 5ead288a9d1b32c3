package env

import (
	"slices"
	"strings"
	"sync"
	"testing"

	"jalousie/api"
)

// R2: what Words tells is the caller's own, spare room too.
func TestWordsAreNew(t *testing.T) {
	for _, name := range worded {
		was := strings.Join(Words(name), " ")
		l := Words(name)
		other := Words(name)
		for i := range l[:cap(l)] {
			l[:cap(l)][i] = "x"
		}
		if strings.Join(other, " ") != was || strings.Join(Words(name), " ") != was {
			t.Error(name, other, Words(name))
		}
		word := other[0]
		e, why := Turn(New(), name, word)
		if name != "orientation" && why != api.OK || !May(New()) {
			t.Error(name, e, why)
		}
	}
}

// R2: an environment is handed on by value.
func TestEnvironmentsStay(t *testing.T) {
	for _, e := range unlike() {
		was := e
		View(e, whole(1), whole(2))
		Font(e, whole(3))
		Color(e, whole(4))
		Print(e, !e.Print)
		for _, name := range worded {
			for _, word := range Words(name) {
				Turn(e, name, word)
			}
		}
		May(e)
		Ctx(e)
		for _, name := range slices.Concat(numbers, worded) {
			Value(e, name)
			Word(e, name)
		}
		if e != was {
			t.Errorf("%+v: %+v", was, e)
		}
	}
}

// R6: nothing is kept from call to call.
func TestTogether(t *testing.T) {
	var done sync.WaitGroup
	for i := range 16 {
		done.Go(func() {
			for k := range 50 {
				e, _ := View(New(), whole(int64(i)), whole(int64(k)))
				e, _ = Turn(e, "pointer", Words("pointer")[(i+k)%3])
				want := "landscape"
				if k >= i {
					want = "portrait"
				}
				o, _ := Word(e, "orientation")
				p, _ := Word(e, "pointer")
				if o != want || p != Words("pointer")[(i+k)%3] || New().Pointer != "fine" {
					t.Error(i, k, o, p)
				}
				Words("hover")[0] = "x"
			}
		})
	}
	done.Wait()
}

// R3: long texts and raw environments.
func TestLong(t *testing.T) {
	long := strings.Repeat("hover", 1<<20)
	e := New()
	e.Hover = long
	if May(e) {
		t.Error("may")
	}
	got, why := Turn(New(), "hover", long)
	fails(t, "Turn", got, why, api.ErrFeature)
	got, why = Turn(New(), long, "hover")
	fails(t, "Turn", got, why, api.ErrFeature)
	if len(Words(long)) > 0 {
		t.Error("words")
	}
}
