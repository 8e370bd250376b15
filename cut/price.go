package cut

import (
	"slices"

	"blazon/api"
)

// Dearest returns the greatest worth of a pattern that fits and has no more pieces than are asked for.
func Dearest(c api.Cutting, prices []int) (int, api.Errno) {
	if err := pricesError(c, prices); err != api.OK {
		return 0, err
	}
	return dearest(c, prices), api.OK
}

// Bound returns a number of rolls that no plan is below: no roll gives pieces that are worth more than Dearest.
func Bound(c api.Cutting, prices []int) (int, api.Errno) {
	if err := pricesError(c, prices); err != api.OK {
		return 0, err
	}
	most := dearest(c, prices)
	if most == 0 {
		return 0, api.OK
	}
	worth := 0
	for i, a := range c.Asks {
		worth += a.Count * prices[i]
	}
	return (worth + most - 1) / most, api.OK
}

// pricesError returns the error of a cutting and prices, or OK.
func pricesError(c api.Cutting, prices []int) api.Errno {
	if !Valid(c) {
		return api.ErrCutting
	}
	if len(prices) != len(c.Asks) || slices.ContainsFunc(prices, func(p int) bool { return !between(p, 0, maxPrice) }) {
		return api.ErrArg
	}
	return api.OK
}

// dearest is Dearest for arguments that are known to be valid. It takes up the pieces one after the other, and knows for
// each room how much the pieces up to now are worth that have room in it.
func dearest(c api.Cutting, prices []int) int {
	worth := make([]int, room(c)+1)
	for i, a := range c.Asks {
		for range a.Count {
			// The greatest rooms come first, so that a smaller one does not have this piece already.
			for n := room(c); n >= size(c, i); n-- {
				worth[n] = max(worth[n], worth[n-size(c, i)]+prices[i])
			}
		}
	}
	return worth[room(c)]
}
