package memo

import (
	"errors"
	"runtime"
	"slices"
	"sync"
	"sync/atomic"
	"testing"
	"time"
)

// soon tells whether hold comes to hold within a time that is long for what is waited for.
func soon(hold func() bool) bool {
	for range 10000 {
		if hold() {
			return true
		}
		time.Sleep(time.Millisecond)
	}
	return false
}

// wantCell holds what c tells of itself, without a Get, against done and runs.
func wantCell[T any](t *testing.T, when string, c *Cell[T], done bool, runs int64) {
	t.Helper()
	if c.Done() != done || c.Runs() != runs {
		t.Errorf("%s: Done %v, Runs %d; want %v, %d", when, c.Done(), c.Runs(), done, runs)
	}
}

// P7.1: the chapter's first example.
func TestCellExample(t *testing.T) {
	ran := 0
	c := New(func() int { ran++; return 7 })
	wantCell(t, "ahead", c, false, 0)
	if ran != 0 {
		t.Error("New ran the function")
	}
	for i := range 3 {
		if got := c.Get(); got != 7 {
			t.Errorf("Get %d: %d", i, got)
		}
		wantCell(t, "behind", c, true, 1)
	}
	if ran != 1 {
		t.Errorf("run %d times", ran)
	}
}

// P7.1: Done and Runs tell what is, and run nothing.
func TestCellAskedWithoutGet(t *testing.T) {
	c := New(func() int { t.Error("run"); return 1 })
	for range 3 {
		wantCell(t, "no Get", c, false, 0)
	}
	if l := c.Together(0); len(l) != 0 {
		t.Error(l)
	}
	wantCell(t, "Together(0)", c, false, 0)
	if l := c.Together(-5); len(l) != 0 {
		t.Error(l)
	}
	wantCell(t, "Together(-5)", c, false, 0)
}

// P7.1: the value that is kept is the first one, whatever f would tell later.
func TestCellKeepsTheFirstValue(t *testing.T) {
	next := 0
	c := New(func() int { next++; return next })
	other := New(func() int { next++; return next })
	for range 3 {
		if c.Get() != 1 || other.Get() != 2 {
			t.Error("a cell's value changed")
		}
	}
}

// P7.1: a function that tells the zero value has run as any other.
func TestCellOfZero(t *testing.T) {
	ran := 0
	c := New(func() error { ran++; return nil })
	for range 3 {
		if c.Get() != nil {
			t.Error("not nil")
		}
	}
	wantCell(t, "behind", c, true, 1)
	if ran != 1 {
		t.Errorf("run %d times", ran)
	}
}

// P7.1: whatever f panics with, the cell's value is zero from then on.
func TestCellOfAPanic(t *testing.T) {
	var none map[string]int
	var empty []int
	panics := map[string]func(){
		"text":     func() { panic("no") },
		"error":    func() { panic(errors.New("no")) },
		"nil":      func() { panic(nil) },
		"map":      func() { none["a"] = 1 },
		"place":    func() { empty[len(none)] = 1 },
		"deferred": func() { defer func() { panic("behind") }() },
		"again":    func() { defer func() { panic("behind") }(); panic("ahead") },
	}
	for name, p := range panics {
		ran := 0
		c := New(func() (told struct {
			a int
			b string
		}) {
			ran++
			told.a, told.b = 3, "half"
			p()
			return
		})
		wantCell(t, name+" ahead", c, false, 0)
		for range 3 {
			if got := c.Get(); got.a != 0 || got.b != "" {
				t.Errorf("%s: %v", name, got)
			}
			wantCell(t, name+" behind", c, true, 1)
		}
		if ran != 1 {
			t.Errorf("%s: run %d times", name, ran)
		}
	}
}

// P7.1: a panic that f catches itself is none of the cell's.
func TestCellOfACaughtPanic(t *testing.T) {
	c := New(func() (told int) {
		defer func() { told = recover().(int) }()
		panic(5)
	})
	if c.Get() != 5 || c.Get() != 5 {
		t.Error(c.Get())
	}
	wantCell(t, "behind", c, true, 1)
}

// P7.1: without a function the first Get counts as the run, and Runs stays 0.
func TestCellWithoutAFunction(t *testing.T) {
	c := New[string](nil)
	wantCell(t, "ahead", c, false, 0)
	for range 2 {
		if c.Get() != "" {
			t.Error(c.Get())
		}
		wantCell(t, "behind", c, true, 0)
	}
	many := New[string](nil)
	if l := many.Together(4); !slices.Equal(l, []string{"", "", "", ""}) {
		t.Error(l)
	}
	wantCell(t, "together", many, true, 0)
}

// P7.1: a cell whose f ends its goroutine has run, and lets nobody wait.
func TestCellWhoseFunctionLeaves(t *testing.T) {
	c := New(func() int { runtime.Goexit(); return 3 })
	left := make(chan int)
	go func() {
		defer close(left)
		c.Get()
	}()
	<-left
	wantCell(t, "behind", c, true, 1)
	if c.Get() != 0 {
		t.Error(c.Get())
	}
	d := New(func() int { runtime.Goexit(); return 3 })
	if l := d.Together(3); !slices.Equal(l, []int{0, 0, 0}) {
		t.Error(l)
	}
}

// P7.1: while f runs, Done is false and Runs is 1, asked from within and from elsewhere; so it is if f will panic.
func TestCellWhileItRuns(t *testing.T) {
	for _, fails := range []bool{false, true} {
		var c *Cell[int]
		begun, goOn := make(chan int), make(chan int)
		c = New(func() int {
			wantCell(t, "within", c, false, 1)
			close(begun)
			<-goOn
			wantCell(t, "within, later", c, false, 1)
			if fails {
				panic("no")
			}
			return 7
		})
		ended := make(chan int)
		go func() { ended <- c.Get() }()
		<-begun
		wantCell(t, "elsewhere", c, false, 1)
		close(goOn)
		if got := <-ended; got != 7 && !fails || got != 0 && fails {
			t.Error(got)
		}
		wantCell(t, "behind", c, true, 1)
	}
}

// P7.1: who asks while f runs waits for its end, and is told the one value.
func TestCellManyAskWhileItRuns(t *testing.T) {
	const askers = 64
	var ran atomic.Int64
	begun, goOn := make(chan int), make(chan int)
	c := New(func() int {
		close(begun)
		<-goOn
		return int(ran.Add(1)) + 6
	})
	told := make(chan int, askers+1)
	ask := func() { told <- c.Get() }
	go ask()
	<-begun
	for range askers {
		go ask()
	}
	time.Sleep(20 * time.Millisecond)
	if len(told) != 0 {
		t.Error("somebody did not wait")
	}
	close(goOn)
	for range askers + 1 {
		if got := <-told; got != 7 {
			t.Error(got)
		}
	}
	wantCell(t, "behind", c, true, 1)
	if ran.Load() != 1 {
		t.Error(ran.Load())
	}
}

// P7.1: Done, once true, means that f has ended; a Get that has answered means Done.
func TestCellDoneIsBehindTheEnd(t *testing.T) {
	for range 200 {
		var ended atomic.Bool
		c := New(func() int {
			runtime.Gosched()
			ended.Store(true)
			return 1
		})
		var all sync.WaitGroup
		for range 8 {
			all.Go(func() {
				if c.Done() && !ended.Load() {
					t.Error("Done ahead of the end")
				}
				if c.Get() != 1 || !c.Done() || c.Runs() != 1 {
					t.Error("a Get that answered ahead of Done")
				}
			})
		}
		all.Wait()
	}
}

// P7.1: a cell may be asked within another one's function.
func TestCellWithinACell(t *testing.T) {
	low := New(func() int { return 3 })
	bad := New(func() int { panic("no") })
	high := New(func() int { return low.Get()*10 + bad.Get() })
	if high.Get() != 30 || low.Runs() != 1 || bad.Runs() != 1 {
		t.Error(high.Get(), low.Runs(), bad.Runs())
	}
}

// cellOfAGreatThing tells a cell whose function alone holds something great; gone is set once nobody holds that.
func cellOfAGreatThing(gone *atomic.Bool) *Cell[int] {
	great := &[1 << 16]int{9}
	runtime.AddCleanup(great, func(int) { gone.Store(true) }, 0)
	return New(func() int { return great[0] })
}

// What the function holds is not kept once it has run: it may be great.
func TestCellLetsItsFunctionGo(t *testing.T) {
	var gone atomic.Bool
	c := cellOfAGreatThing(&gone)
	runtime.GC()
	if c.Get() != 9 {
		t.Error(c.Get())
	}
	if !soon(func() bool { runtime.GC(); return gone.Load() }) {
		t.Error("the function is kept")
	}
	runtime.KeepAlive(c)
}

// P7.2: how many ask, from below 0 to beyond the cap; what they are told is the one value.
func TestTogetherHowMany(t *testing.T) {
	sizes := []struct{ n, want int }{
		{-1 << 63, 0}, {-1, 0}, {0, 0}, {1, 1}, {2, 2}, {3, 3}, {1023, 1023}, {1024, 1024}, {1025, 1024}, {5000, 1024}, {1<<63 - 1, 1024},
	}
	for _, size := range sizes {
		c := New(func() int { return 7 })
		for range 2 {
			l := c.Together(size.n)
			if len(l) != size.want || slices.ContainsFunc(l, func(got int) bool { return got != 7 }) {
				t.Errorf("Together(%d): %d of them", size.n, len(l))
			}
		}
		wantCell(t, "behind", c, size.want > 0, int64(min(size.want, 1)))
	}
}

// P7.2: f runs once though many ask; all have ended, though f takes its time.
func TestTogetherRunsOnce(t *testing.T) {
	var ran atomic.Int64
	c := New(func() int64 {
		time.Sleep(20 * time.Millisecond)
		return ran.Add(1)
	})
	l := c.Together(300)
	if len(l) != 300 || slices.Min(l) != 1 || slices.Max(l) != 1 || ran.Load() != 1 {
		t.Error(l, ran.Load())
	}
	wantCell(t, "behind", c, true, 1)
}

// P7.2: all of them ask at one time, each in a goroutine of its own; none is left.
func TestTogetherIsAtOneTime(t *testing.T) {
	for _, n := range []int{1, 50, 1024} {
		before := runtime.NumGoroutine()
		c := New(func() bool {
			// Beside them stand this test's goroutine and the one that waits for it.
			return soon(func() bool { return runtime.NumGoroutine() >= n+2 })
		})
		if l := c.Together(n); len(l) != n || !l[0] {
			t.Errorf("Together(%d): not %d goroutines at one time", n, n)
		}
		if !soon(func() bool { return runtime.NumGoroutine() <= before }) {
			t.Errorf("Together(%d): a goroutine is left", n)
		}
	}
}

// P7.2: of a function that panics all are told the zero value.
func TestTogetherOfAPanic(t *testing.T) {
	c := New(func() string { panic("no") })
	if l := c.Together(3); !slices.Equal(l, []string{"", "", ""}) {
		t.Error(l)
	}
	wantCell(t, "behind", c, true, 1)
}

// P7.2 and R2: a list that is told is the caller's own.
func TestTogetherTellsNewMemory(t *testing.T) {
	c := New(func() int { return 7 })
	first := c.Together(3)
	second := c.Together(3)
	first[0] = 1
	_ = append(first[:1], 2)
	if !slices.Equal(second, []int{7, 7, 7}) || !slices.Equal(c.Together(3), []int{7, 7, 7}) || c.Get() != 7 {
		t.Error(second, c.Get())
	}
}

// The chapter's words on a nil cell.
func TestNilCell(t *testing.T) {
	var c *Cell[string]
	for range 2 {
		wantCell(t, "nil", c, false, 0)
		if c.Get() != "" {
			t.Error(c.Get())
		}
		for _, n := range []int{-1, 0, 1, 3, 1024, 5000} {
			if l := c.Together(n); len(l) != 0 {
				t.Error(n, l)
			}
		}
	}
}
