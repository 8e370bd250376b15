package cut_test

import (
	"math"
	"math/rand/v2"
	"slices"
	"testing"

	"blazon/api"
	"blazon/cut"
)

// P4.4: Dearest and Bound, with the chapter's example.
func TestDearestAndBound(t *testing.T) {
	kerf := example()
	kerf.Kerf = 2
	all := api.Cutting{Length: 1000, Asks: slices.Repeat([]api.Ask{{Length: 2, Count: 50}}, 8)}
	most := slices.Repeat([]int{1000000}, 8)
	for _, c := range []struct {
		c              api.Cutting
		prices         []int
		dearest, bound int
	}{
		{example(), []int{60, 40, 30}, 100, 3},
		{example(), []int{0, 0, 0}, 0, 0},
		{example(), []int{1, 0, 0}, 1, 2},
		{example(), []int{0, 0, 1}, 3, 1},
		{example(), []int{0, 0, 1000000}, 3000000, 1},
		{example(), []int{1000000, 1000000, 1000000}, 3000000, 2},
		{kerf, []int{60, 40, 30}, 90, 3},
		{kerf, []int{2, 1, 1}, 3, 3},
		// no more pieces than are asked for: 4 * 2 = 8, though there is room for 10
		{api.Cutting{Length: 100, Asks: []api.Ask{{Length: 10, Count: 4}}}, []int{2}, 8, 1},
		{api.Cutting{Length: 100, Asks: []api.Ask{{Length: 10, Count: 0}}}, []int{2}, 0, 0},
		{api.Cutting{Length: 100, Asks: []api.Ask{{Length: 10, Count: 0}, {Length: 10, Count: 11}}}, []int{2, 1}, 10, 2},
		// two cheap pieces together are dearer than the dearest one
		{api.Cutting{Length: 10, Asks: []api.Ask{{Length: 6, Count: 1}, {Length: 5, Count: 2}}}, []int{5, 3}, 6, 2},
		{all, most, 400000000, 1},
		{greatest(), most, 1000000, 400},
		{greatest(), []int{0, 0, 0, 0, 0, 0, 0, 1}, 1, 50},
		{greatest(), []int{1, 0, 0, 0, 0, 0, 0, 1000000}, 1000000, 51},
		{api.Cutting{Length: 10}, nil, 0, 0},
		{api.Cutting{Length: 10}, []int{}, 0, 0},
	} {
		if n, e := cut.Dearest(c.c, c.prices); n != c.dearest || e != api.OK {
			t.Errorf("Dearest(%v, %v): %d, error %d, not %d", c.c, c.prices, n, e, c.dearest)
		}
		if n, e := cut.Bound(c.c, c.prices); n != c.bound || e != api.OK {
			t.Errorf("Bound(%v, %v): %d, error %d, not %d", c.c, c.prices, n, e, c.bound)
		}
	}
}

// P4.4: ErrArg.
func TestPriceErrors(t *testing.T) {
	for _, prices := range [][]int{
		nil, {}, {1, 1}, {1, 1, 1, 1}, {-1, 1, 1}, {1, -1, 1}, {1, 1, -1}, {1000001, 1, 1}, {1, 1, 1000001},
		{math.MinInt, 1, 1}, {1, 1, math.MaxInt}, make([]int, 3)[:2],
	} {
		if n, e := cut.Dearest(example(), prices); n != 0 || e != api.ErrArg {
			t.Errorf("Dearest(%v): %d, error %d", prices, n, e)
		}
		if n, e := cut.Bound(example(), prices); n != 0 || e != api.ErrArg {
			t.Errorf("Bound(%v): %d, error %d", prices, n, e)
		}
	}
	if _, e := cut.Dearest(api.Cutting{Length: 1}, []int{0}); e != api.ErrArg {
		t.Errorf("Dearest with a price too many: error %d", e)
	}
}

// P4.4: Dearest and Bound are as the second way says.
func TestDearestOfSomeCuttings(t *testing.T) {
	random := rand.New(rand.NewPCG(4, 4))
	for range 3000 {
		c := someCutting(random, 6)
		prices := somePrices(random, c)
		dearest, e := cut.Dearest(c, prices)
		if want := referenceDearest(c, prices); dearest != want || e != api.OK {
			t.Fatalf("Dearest(%v, %v): %d, error %d, not %d", c, prices, dearest, e, want)
		}
		worth := 0
		for i, a := range c.Asks {
			worth += a.Count * prices[i]
		}
		n, e := cut.Bound(c, prices)
		if e != api.OK || dearest == 0 && n != 0 || n*dearest < worth || dearest > 0 && (n-1)*dearest >= worth && n != 0 {
			t.Fatalf("Bound(%v, %v): %d, error %d; worth %d, dearest %d", c, prices, n, e, worth, dearest)
		}
	}
}
