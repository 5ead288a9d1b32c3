package memo

import (
	"math"
	"sync/atomic"
)

// Count is a number that goes up.
type Count struct {
	n atomic.Int64
}

// Add makes the count n more, as far as int64 goes, and tells what it is then.
func (c *Count) Add(n int64) int64 {
	if c == nil {
		return 0
	}
	// atomic's own Add would wrap at the ends. Nobody waits here: a swap that fails was overtaken by one that went through.
	for {
		old := c.n.Load()
		sum := bounded(old, n)
		if c.n.CompareAndSwap(old, sum) {
			return sum
		}
	}
}

// Value tells what the count is.
func (c *Count) Value() int64 {
	if c == nil {
		return 0
	}
	return c.n.Load()
}

// Crowd lets n goroutines add by, each once, and tells what the count is behind the end of all of them.
func (c *Count) Crowd(n int, by int64) int64 {
	if c == nil {
		return 0
	}
	crowd(crowdSize(n), func(int) { c.Add(by) })
	return c.Value()
}

// bounded tells a + b, or the end of int64 that the sum would have crossed.
func bounded(a, b int64) int64 {
	switch {
	case b > 0 && a > math.MaxInt64-b:
		return math.MaxInt64
	case b < 0 && a < math.MinInt64-b:
		return math.MinInt64
	}
	return a + b
}
