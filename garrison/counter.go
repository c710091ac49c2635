package garrison

import "sync/atomic"

// counter gives out numbers, from 0 on; two calls at once never get the same.
type counter struct {
	atomic.Int64
}

// next gives out a number below the bound; false, if there is none left.
func (c *counter) next(bound int) (int, bool) {
	for {
		number := c.Load()
		if number >= int64(bound) {
			return 0, false
		}
		if c.CompareAndSwap(number, number+1) {
			return int(number), true
		}
	}
}
