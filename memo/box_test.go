package memo

import (
	"math/rand"
	"sync"
	"testing"
)

// wantHeld holds an answer of Get or Swap against value and held.
func wantHeld[T comparable](t *testing.T, call string, gotValue T, gotHeld bool, value T, held bool) {
	t.Helper()
	if gotValue != value || gotHeld != held {
		t.Errorf("%s: %v %v; want %v %v", call, gotValue, gotHeld, value, held)
	}
}

// P7.4: the chapter's example.
func TestBoxExample(t *testing.T) {
	var b Box[int]
	got, held := b.Get()
	wantHeld(t, "Get", got, held, 0, false)
	b.Put(4)
	got, held = b.Get()
	wantHeld(t, "Put(4), Get", got, held, 4, true)
	got, held = b.Swap(5)
	wantHeld(t, "Swap(5)", got, held, 4, true)
	for range 2 {
		got, held = b.Get()
		wantHeld(t, "Swap(5), Get", got, held, 5, true)
	}
}

// P7.4: asking a box that holds nothing puts nothing into it.
func TestBoxOfNothing(t *testing.T) {
	var b Box[string]
	for range 3 {
		got, held := b.Get()
		wantHeld(t, "Get", got, held, "", false)
	}
	got, held := b.Swap("x")
	wantHeld(t, "Swap", got, held, "", false)
	got, held = b.Get()
	wantHeld(t, "Swap, Get", got, held, "x", true)
}

// P7.4: a zero value is held as any other.
func TestBoxOfZero(t *testing.T) {
	var b Box[int]
	b.Put(0)
	got, held := b.Get()
	wantHeld(t, "Put(0), Get", got, held, 0, true)
	got, held = b.Swap(3)
	wantHeld(t, "Put(0), Swap", got, held, 0, true)
	got, held = b.Swap(0)
	wantHeld(t, "Swap(0)", got, held, 3, true)
	got, held = b.Get()
	wantHeld(t, "Swap(0), Get", got, held, 0, true)

	var swapped Box[int]
	got, held = swapped.Swap(0)
	wantHeld(t, "Swap(0) of nothing", got, held, 0, false)
	got, held = swapped.Get()
	wantHeld(t, "Swap(0) of nothing, Get", got, held, 0, true)

	var errs Box[error]
	errs.Put(nil)
	e, held := errs.Get()
	wantHeld(t, "Put(nil) of errors", e, held, nil, true)

	var pointers Box[*int]
	pointers.Put(nil)
	p, held := pointers.Get()
	wantHeld(t, "Put(nil) of pointers", p, held, nil, true)

	var empties Box[struct{}]
	_, held = empties.Get()
	wantHeld(t, "Get of empties", struct{}{}, held, struct{}{}, false)
	empties.Put(struct{}{})
	_, held = empties.Get()
	wantHeld(t, "Put of empties", struct{}{}, held, struct{}{}, true)
}

// P7.4: a box of interfaces may hold values of several types.
func TestBoxOfSeveralTypes(t *testing.T) {
	var b Box[any]
	b.Put(3)
	got, held := b.Swap("x")
	wantHeld[any](t, "Swap", got, held, 3, true)
	got, held = b.Get()
	wantHeld[any](t, "Get", got, held, "x", true)
}

// R2: what was put is the value as it was: a variable that is changed later changes nothing, neither does what was told.
func TestBoxHoldsACopy(t *testing.T) {
	var b Box[[3]int]
	put := [3]int{1, 2, 3}
	b.Put(put)
	put[0] = 9
	told, _ := b.Get()
	told[1] = 9
	got, held := b.Get()
	wantHeld(t, "Get", got, held, [3]int{1, 2, 3}, true)
	old, held := b.Swap(put)
	wantHeld(t, "Swap", old, held, [3]int{1, 2, 3}, true)
	put[2] = 8
	got, held = b.Get()
	wantHeld(t, "Swap, Get", got, held, [3]int{9, 2, 3}, true)
}

// Two boxes keep to themselves.
func TestBoxesApart(t *testing.T) {
	var a, b Box[int]
	a.Put(1)
	got, held := b.Get()
	wantHeld(t, "the other", got, held, 0, false)
	b.Put(2)
	got, held = a.Get()
	wantHeld(t, "the one", got, held, 1, true)
}

// A second reading of P7.4: what is held is the last of a list.
func TestBoxAgainstAList(t *testing.T) {
	random := rand.New(rand.NewSource(7))
	for range 200 {
		var b Box[int]
		var list []int
		for range 30 {
			want, some := 0, len(list) > 0
			if some {
				want = list[len(list)-1]
			}
			next := random.Intn(4)
			switch random.Intn(3) {
			case 0:
				b.Put(next)
				list = append(list, next)
			case 1:
				got, held := b.Get()
				wantHeld(t, "Get", got, held, want, some)
			case 2:
				got, held := b.Swap(next)
				wantHeld(t, "Swap", got, held, want, some)
				list = append(list, next)
			}
		}
	}
}

// P7.4: many swap at one time: each value is told once, or is held at the end; none is told by halves.
func TestBoxManySwap(t *testing.T) {
	const workers, times = 16, 500
	type pair struct{ a, b int }
	var b Box[pair]
	told := make([][]pair, workers)
	var all sync.WaitGroup
	for i := range workers {
		all.Go(func() {
			for k := range times {
				n := i*times + k + 1
				if old, held := b.Swap(pair{n, -n}); held {
					told[i] = append(told[i], old)
				}
				if now, held := b.Get(); !held || now.a != -now.b {
					t.Error("by halves", now, held)
				}
			}
		})
	}
	all.Wait()
	last, held := b.Get()
	if !held {
		t.Error("nothing is held")
	}
	seen := map[int]int{last.a: 1}
	for _, l := range told {
		for _, p := range l {
			seen[p.a]++
			if p.a != -p.b {
				t.Error("by halves", p)
			}
		}
	}
	for n := 1; n <= workers*times; n++ {
		if seen[n] != 1 {
			t.Fatalf("%d was told %d times", n, seen[n])
		}
	}
}

// The chapter's words on a nil Box.
func TestNilBox(t *testing.T) {
	var b *Box[int]
	for range 2 {
		got, held := b.Get()
		wantHeld(t, "Get", got, held, 0, false)
		b.Put(3)
		got, held = b.Get()
		wantHeld(t, "Put, Get", got, held, 0, false)
		got, held = b.Swap(3)
		wantHeld(t, "Swap", got, held, 0, false)
		got, held = b.Swap(4)
		wantHeld(t, "Swap again", got, held, 0, false)
	}
}
