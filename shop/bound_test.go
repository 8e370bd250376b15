package shop_test

import (
	"math"
	"math/rand/v2"
	"slices"
	"testing"

	"blazon/api"
	"blazon/shop"
)

// P5.7: Chain, Load and Bound, with the chapter's example.
func TestBound(t *testing.T) {
	closed := two()
	closed.Holidays = []int{0, 1, 2}
	alone := plain()
	alone.Jobs = []api.Work{steps([4]int{0, 400, 1, 1040}, [4]int{0, 1, 2, 10000})}
	late := plain()
	late.Jobs = []api.Work{steps([4]int{0, 400, 1, 1041}, [4]int{0, 1, 2, 10000})}
	full := plain()
	full.Jobs = []api.Work{steps([4]int{0, 480, 1, 0}), steps([4]int{0, 1, 1, 0})}
	for _, c := range []struct {
		s             api.Shop
		chains, loads []int
		bound         int
	}{
		{example(), []int{540, 540, 540}, []int{660}, 660},
		{plain(), nil, []int{0}, 0},
		{two(), []int{630, 540, 0, 560}, []int{720, 520}, 720},
		{closed, []int{4950, 4860, 0, 4880}, []int{5040, 4840}, 5040},
		{alone, []int{1921}, []int{881}, 1921}, // without a setup
		{late, []int{1922}, []int{881}, 1922},
		{full, []int{960, 481}, []int{1921}, 1921},
		{narrow(), []int{1440}, []int{1440}, 1440},
		// each step is a whole day, and dries for 10000 minutes, until the eighth day
		{greatest(), slices.Repeat([]int{7*8*1440 + 1440}, 12), []int{0, 0, 0, 0, 0, 96 * 1440}, 96 * 1440},
	} {
		for i, want := range c.chains {
			if got, err := shop.Chain(c.s, i); got != want || err != api.OK {
				t.Errorf("Chain of %v, %d: %d, error %d, not %d", c.s, i, got, err, want)
			}
		}
		for i, want := range c.loads {
			if got, err := shop.Load(c.s, i); got != want || err != api.OK {
				t.Errorf("Load of %v, %d: %d, error %d, not %d", c.s, i, got, err, want)
			}
		}
		if got, err := shop.Bound(c.s); got != c.bound || err != api.OK {
			t.Errorf("Bound of %v: %d, error %d, not %d", c.s, got, err, c.bound)
		}
	}
}

// P5.7: there is no such job, or machine.
func TestBoundErrors(t *testing.T) {
	for _, n := range []int{-1, 4, math.MinInt, math.MaxInt} {
		if got, err := shop.Chain(two(), n); got != 0 || err != api.ErrArg {
			t.Errorf("Chain of the job %d: %d, error %d", n, got, err)
		}
	}
	for _, n := range []int{-1, 2, 5, 6, math.MinInt, math.MaxInt} {
		if got, err := shop.Load(two(), n); got != 0 || err != api.ErrArg {
			t.Errorf("Load of the machine %d: %d, error %d", n, got, err)
		}
	}
	if got, err := shop.Chain(plain(), 0); got != 0 || err != api.ErrArg {
		t.Errorf("Chain without jobs: %d, error %d", got, err)
	}
}

// P5.7: Chain, Load and Bound are as the second way says.
func TestBoundOfSomeShops(t *testing.T) {
	r := rand.New(rand.NewPCG(5, 7))
	for range 2000 {
		s := someShop(r, 6)
		for i := range s.Jobs {
			if got, err := shop.Chain(s, i); got != referenceChain(s, i) || err != api.OK {
				t.Fatalf("Chain of %v, %d: %d, error %d", s, i, got, err)
			}
		}
		for machine := range s.Machines {
			if got, err := shop.Load(s, machine); got != referenceLoad(s, machine) || err != api.OK {
				t.Fatalf("Load of %v, %d: %d, error %d", s, machine, got, err)
			}
		}
		if got, err := shop.Bound(s); got != referenceBound(s) || err != api.OK {
			t.Fatalf("Bound of %v: %d, error %d", s, got, err)
		}
	}
}

// P5.11: no plan that Judge accepts ends before the bound.
func TestNoPlanBelowTheBound(t *testing.T) {
	r := rand.New(rand.NewPCG(5, 111))
	tight := 0
	for range 4000 {
		s := someShop(r, 4)
		bound, _ := shop.Bound(s)
		for _, late := range []int{0, 100} {
			plan := somePlan(r, s, late)
			end, err := shop.End(s, plan)
			if err != api.OK || end < bound {
				t.Fatalf("End of %v, %v: %d, error %d, but Bound %d", s, plan, end, err, bound)
			}
			if end == bound {
				tight++
			}
		}
	}
	if tight < 1000 {
		t.Errorf("only %d plans ended at the bound", tight)
	}
}
