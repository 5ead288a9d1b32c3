package memo

import "sync"

// mostAtOnce is the greatest number of goroutines that one call starts.
const mostAtOnce = 1024

// crowdSize tells n, brought into 0 to mostAtOnce.
func crowdSize(n int) int {
	return min(max(n, 0), mostAtOnce)
}

// crowd does n things at one time, a goroutine each, and ends behind all of them.
func crowd(n int, do func(i int)) {
	var all sync.WaitGroup
	all.Add(n)
	for i := range n {
		go func() {
			defer all.Done()
			do(i)
		}()
	}
	all.Wait()
}
