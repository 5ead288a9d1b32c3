package memo

import (
	"math"
	"math/big"
	"math/rand"
	"sync"
	"testing"
)

const (
	top    = math.MaxInt64
	bottom = math.MinInt64
)

// P7.3: the chapter's example.
func TestCountExample(t *testing.T) {
	var c Count
	if got := c.Value(); got != 0 {
		t.Error("a zero Count", got)
	}
	if got := c.Add(5); got != 5 {
		t.Error("Add(5)", got)
	}
	if got := c.Add(-2); got != 3 {
		t.Error("Add(-2)", got)
	}
	if got := c.Value(); got != 3 {
		t.Error("Value", got)
	}
	if got := c.Crowd(10, 3); got != 33 {
		t.Error("Crowd(10, 3)", got)
	}
	if got := c.Value(); got != 33 {
		t.Error("Value", got)
	}
}

// P7.3: sums at the ends, and what is added behind that.
func TestCountEnds(t *testing.T) {
	rows := []struct{ from, by, want int64 }{
		{0, top, top}, {0, bottom, bottom}, {0, 0, 0},
		{top - 1, 1, top}, {top - 1, 2, top}, {top, 0, top}, {top, 1, top}, {top, top, top},
		{top, -1, top - 1}, {top, bottom, -1}, {top, -top, 0},
		{bottom + 1, -1, bottom}, {bottom + 1, -2, bottom}, {bottom, 0, bottom}, {bottom, -1, bottom}, {bottom, bottom, bottom},
		{bottom, 1, bottom + 1}, {bottom, top, -1},
		{-1, bottom, bottom}, {1, bottom, bottom + 1}, {1, top, top}, {-1, top, top - 1},
		{1 << 62, 1 << 62, top}, {-1 << 62, -1 << 62, bottom}, {1 << 62, 1<<62 - 1, top}, {-1 << 62, -1<<62 - 1, bottom},
	}
	for _, row := range rows {
		var c Count
		c.Add(row.from)
		if got := c.Add(row.by); got != row.want || c.Value() != row.want {
			t.Errorf("%d + %d: %d, kept %d; want %d", row.from, row.by, got, c.Value(), row.want)
		}
	}
}

// P7.3: a count that stayed at an end goes on from there.
func TestCountBehindAnEnd(t *testing.T) {
	var c Count
	steps := []struct{ by, want int64 }{
		{top, top}, {top, top}, {1, top}, {-3, top - 3}, {5, top}, {bottom, -1}, {bottom, bottom}, {-1, bottom}, {4, bottom + 4}, {top, 3},
	}
	for i, step := range steps {
		if got := c.Add(step.by); got != step.want || c.Value() != step.want {
			t.Errorf("step %d: Add(%d) %d; want %d", i, step.by, got, step.want)
		}
	}
}

// P7.3: Crowd of any number; each adds once.
func TestCrowdHowMany(t *testing.T) {
	sizes := []struct {
		n    int
		want int64
	}{
		{bottom, 0}, {-1, 0}, {0, 0}, {1, 1}, {2, 2}, {1023, 1023}, {1024, 1024}, {1025, 1024}, {4000, 1024}, {top, 1024},
	}
	for _, size := range sizes {
		for _, by := range []int64{-7, -1, 0, 1, 2} {
			var c Count
			c.Add(100)
			if got := c.Crowd(size.n, by); got != 100+size.want*by || c.Value() != got {
				t.Errorf("Crowd(%d, %d): %d", size.n, by, got)
			}
		}
	}
}

// P7.3: a crowd stays at an end too, and what is added behind it goes on from there.
func TestCrowdEnds(t *testing.T) {
	rows := []struct {
		from int64
		n    int
		by   int64
		want int64
	}{
		{0, 2, 1 << 62, top}, {0, 3, 1 << 62, top}, {0, 1024, top, top}, {top - 10, 10, 1, top}, {top - 10, 11, 1, top}, {top, 5, 1, top},
		{0, 2, -1 << 62, bottom}, {0, 3, -1 << 62, bottom}, {0, 1024, bottom, bottom}, {bottom + 10, 10, -1, bottom}, {bottom + 10, 11, -1, bottom},
		{top, 1, bottom, -1}, {top, 2, bottom, bottom}, {bottom, 1, top, -1}, {bottom, 2, top, top - 1}, {bottom, 3, top, top},
	}
	for _, row := range rows {
		var c Count
		c.Add(row.from)
		if got := c.Crowd(row.n, row.by); got != row.want || c.Value() != row.want {
			t.Errorf("%d, Crowd(%d, %d): %d; want %d", row.from, row.n, row.by, got, row.want)
		}
		if got := c.Add(-(row.want >> 1)); got != row.want-row.want>>1 {
			t.Errorf("behind Crowd(%d, %d): %d", row.n, row.by, got)
		}
	}
}

// P7.3: many add at one time, and nothing is lost; each is told a sum of its own.
func TestCountManyAdd(t *testing.T) {
	const workers, times = 32, 500
	var c Count
	told := make([][]int64, workers)
	var all sync.WaitGroup
	for i := range workers {
		all.Go(func() {
			for range times {
				told[i] = append(told[i], c.Add(1))
			}
		})
	}
	crowds := make([]int64, 4)
	for i := range crowds {
		all.Go(func() { crowds[i] = c.Crowd(100, workers*times) })
	}
	all.Wait()
	if got := c.Value(); got != workers*times*401 {
		t.Error(got)
	}
	seen := map[int64]int{}
	for _, l := range told {
		for i, sum := range l {
			seen[sum]++
			if i > 0 && sum <= l[i-1] {
				t.Fatal("a sum went down")
			}
		}
	}
	if len(seen) != workers*times {
		t.Errorf("%d sums", len(seen))
	}
	for _, got := range crowds {
		if got < 100*workers*times {
			t.Error("a crowd answered ahead of its end", got)
		}
	}
}

// P7.3: many that push against an end at one time stay there.
func TestCountManyAtTheEnd(t *testing.T) {
	var up, down Count
	var all sync.WaitGroup
	for range 16 {
		all.Go(func() {
			for range 500 {
				if up.Add(1<<60) <= 0 || down.Add(-1<<60) >= 0 {
					t.Error("wrapped")
				}
			}
		})
	}
	all.Wait()
	if up.Value() != top || down.Value() != bottom {
		t.Error(up.Value(), down.Value())
	}
}

// A second reading of P7.3, with whole numbers of any size.
func TestCountAgainstWholeNumbers(t *testing.T) {
	random := rand.New(rand.NewSource(7))
	least, most := big.NewInt(bottom), big.NewInt(top)
	for range 300 {
		var c Count
		want := big.NewInt(0)
		for range 60 {
			by := int64(random.Uint64()) >> random.Intn(64)
			n := random.Intn(5) - 1
			single := random.Intn(2) == 0
			if single {
				n = 1
			}
			for range max(n, 0) {
				want.Add(want, big.NewInt(by))
				if want.Cmp(most) > 0 {
					want.Set(most)
				}
				if want.Cmp(least) < 0 {
					want.Set(least)
				}
			}
			var got int64
			if single {
				got = c.Add(by)
			} else {
				got = c.Crowd(n, by)
			}
			if got != want.Int64() || c.Value() != got {
				t.Fatalf("%d times %d: %d; want %d", n, by, got, want)
			}
		}
	}
}

// The chapter's words on a nil Count.
func TestNilCount(t *testing.T) {
	var c *Count
	for range 2 {
		for _, n := range []int64{bottom, -1, 0, 1, 3, top} {
			if got := c.Add(n); got != 0 {
				t.Error("Add", n, got)
			}
			if got := c.Crowd(int(n), 3); got != 0 {
				t.Error("Crowd", n, got)
			}
			if got := c.Crowd(3, n); got != 0 {
				t.Error("Crowd by", n, got)
			}
			if got := c.Value(); got != 0 {
				t.Error("Value", got)
			}
		}
	}
}
