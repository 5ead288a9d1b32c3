package memo

import "sync/atomic"

// Box holds a value, or none.
type Box[T any] struct {
	held atomic.Pointer[T] // nil: nothing is held; what it points to is never written again
}

// Put makes the box hold t.
func (b *Box[T]) Put(t T) {
	if b != nil {
		b.held.Store(&t)
	}
}

// Get tells what the box holds, and whether it holds anything.
func (b *Box[T]) Get() (T, bool) {
	if b == nil {
		return opened[T](nil)
	}
	return opened(b.held.Load())
}

// Swap makes the box hold t, and tells what it held, as Get does.
func (b *Box[T]) Swap(t T) (T, bool) {
	if b == nil {
		return opened[T](nil)
	}
	return opened(b.held.Swap(&t))
}

// opened tells what stands at p, and whether anything does.
func opened[T any](p *T) (T, bool) {
	if p == nil {
		var zero T
		return zero, false
	}
	return *p, true
}
