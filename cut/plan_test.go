package cut_test

import (
	"math/rand/v2"
	"reflect"
	"slices"
	"testing"

	"blazon/api"
	"blazon/cut"
)

// samePlan reports whether two plans are equal; an empty one and nil are the same.
func samePlan(p, q []api.Batch) bool {
	return slices.EqualFunc(p, q, func(a, b api.Batch) bool { return a.Times == b.Times && slices.Equal(a.Counts, b.Counts) })
}

func clonePlan(plan []api.Batch) []api.Batch {
	var clone []api.Batch
	for _, b := range plan {
		clone = append(clone, api.Batch{Times: b.Times, Counts: slices.Clone(b.Counts)})
	}
	return clone
}

// P4.3: Canonical.
func TestCanonical(t *testing.T) {
	c := api.Cutting{Length: 100, Asks: []api.Ask{{Length: 10, Count: 12}, {Length: 10, Count: 20}, {Length: 10, Count: 50}}}
	plan := []api.Batch{
		{Times: 3, Counts: []int{0, 0, 0}}, {Times: 1, Counts: []int{1, 0, 3}}, {Times: 5, Counts: []int{0, 2, 0}},
		{Times: 2, Counts: []int{2, 0, 3}}, {Times: 1, Counts: []int{1, 0, 3}}, {Times: 40, Counts: []int{0, 0, 0}},
		{Times: 5, Counts: []int{0, 2, 0}}, {Times: 1, Counts: []int{6, 0, 4}}, {Times: 17, Counts: []int{0, 0, 2}},
	}
	want := []api.Batch{
		{Times: 1, Counts: []int{6, 0, 4}}, {Times: 2, Counts: []int{2, 0, 3}}, {Times: 2, Counts: []int{1, 0, 3}},
		{Times: 10, Counts: []int{0, 2, 0}}, {Times: 17, Counts: []int{0, 0, 2}},
	}
	if l, e := cut.Canonical(c, plan); !samePlan(l, want) || e != api.OK {
		t.Errorf("Canonical: %v, error %d", l, e)
	}
	for _, plan := range [][]api.Batch{nil, {}, {{Times: 1000, Counts: []int{0}}, {Times: 1, Counts: []int{0}}}} {
		if l, e := cut.Canonical(api.Cutting{Length: 3, Asks: []api.Ask{{Length: 1}}}, plan); len(l) != 0 || e != api.OK {
			t.Errorf("Canonical of %v: %v, error %d", plan, l, e)
		}
	}
	if l, e := cut.Canonical(api.Cutting{Length: 3}, []api.Batch{{Times: 9}}); len(l) != 0 || e != api.OK {
		t.Errorf("Canonical without asks: %v, error %d", l, e)
	}
}

// P4.3, P4.11: Canonical is as the second way says, and Canonical of Canonical is Canonical.
func TestCanonicalOfSomePlans(t *testing.T) {
	random := rand.New(rand.NewPCG(4, 3))
	for range 3000 {
		c := someCutting(random, 12)
		plan := somePlan(random, c)
		first, e1 := cut.Canonical(c, plan)
		if e1 != api.OK || !samePlan(first, referenceCanonical(plan)) {
			t.Fatalf("Canonical(%v, %v): %v, error %d", c, plan, first, e1)
		}
		if second, e := cut.Canonical(c, first); e != api.OK || !samePlan(first, second) {
			t.Fatalf("Canonical of %v: %v, error %d", first, second, e)
		}
	}
}

// P4.5: Greedy, with the chapter's example.
func TestGreedy(t *testing.T) {
	two := example()
	two.Kerf = 2
	for _, c := range []struct {
		c    api.Cutting
		want []api.Batch
	}{
		{example(), []api.Batch{{Times: 1, Counts: []int{1, 1, 0}}, {Times: 1, Counts: []int{1, 0, 1}}, {Times: 1, Counts: []int{0, 0, 2}}}},
		{two, []api.Batch{{Times: 2, Counts: []int{1, 0, 1}}, {Times: 1, Counts: []int{0, 1, 1}}}},
		{greatest(), []api.Batch{
			{Times: 50, Counts: []int{1, 0, 0, 0, 0, 0, 0, 0}}, {Times: 50, Counts: []int{0, 1, 0, 0, 0, 0, 0, 0}},
			{Times: 50, Counts: []int{0, 0, 1, 0, 0, 0, 0, 0}}, {Times: 50, Counts: []int{0, 0, 0, 1, 0, 0, 0, 0}},
			{Times: 50, Counts: []int{0, 0, 0, 0, 1, 0, 0, 0}}, {Times: 50, Counts: []int{0, 0, 0, 0, 0, 1, 0, 0}},
			{Times: 50, Counts: []int{0, 0, 0, 0, 0, 0, 1, 0}}, {Times: 50, Counts: []int{0, 0, 0, 0, 0, 0, 0, 1}},
		}},
		{api.Cutting{Length: 1000, Asks: slices.Repeat([]api.Ask{{Length: 1, Count: 50}}, 8)}, []api.Batch{{Times: 1, Counts: slices.Repeat([]int{50}, 8)}}},
		// the longest ones come first, also if they are asked for last
		{api.Cutting{Length: 10, Asks: []api.Ask{{Length: 3, Count: 2}, {Length: 7, Count: 1}, {Length: 5, Count: 1}}}, []api.Batch{{Times: 1, Counts: []int{1, 1, 0}}, {Times: 1, Counts: []int{1, 0, 1}}}},
		// of equal lengths, the ask in front is first
		{api.Cutting{Length: 10, Asks: []api.Ask{{Length: 5, Count: 1}, {Length: 5, Count: 3}, {Length: 5, Count: 2}}}, []api.Batch{{Times: 1, Counts: []int{1, 1, 0}}, {Times: 1, Counts: []int{0, 2, 0}}, {Times: 1, Counts: []int{0, 0, 2}}}},
		// the first roll with room, not that with the least room
		{api.Cutting{Length: 10, Asks: []api.Ask{{Length: 6, Count: 1}, {Length: 7, Count: 1}, {Length: 2, Count: 1}}}, []api.Batch{{Times: 1, Counts: []int{1, 0, 0}}, {Times: 1, Counts: []int{0, 1, 1}}}},
		{api.Cutting{Length: 10, Asks: []api.Ask{{Length: 8, Count: 1}, {Length: 6, Count: 1}, {Length: 3, Count: 1}, {Length: 1, Count: 1}}}, []api.Batch{{Times: 1, Counts: []int{1, 0, 0, 1}}, {Times: 1, Counts: []int{0, 1, 1, 0}}}},
		{api.Cutting{Length: 10, Asks: []api.Ask{{Length: 5}, {Length: 3}}}, nil},
		{api.Cutting{Length: 10}, nil},
	} {
		if l, e := cut.Greedy(c.c); !samePlan(l, c.want) || e != api.OK {
			t.Errorf("Greedy(%v): %v, error %d, not %v", c.c, l, e, c.want)
		}
	}
}

// P4.5: Greedy is as the second way says, and a plan that Check accepts and Canonical leaves as it is.
func TestGreedyOfSomeCuttings(t *testing.T) {
	random := rand.New(rand.NewPCG(4, 5))
	for range 3000 {
		c := someCutting(random, 50)
		plan, e := cut.Greedy(c)
		if e != api.OK || !samePlan(plan, referenceGreedy(c)) {
			t.Fatalf("Greedy(%v): %v, error %d, not %v", c, plan, e, referenceGreedy(c))
		}
		if l, e := cut.Canonical(c, plan); !samePlan(l, plan) || e != api.OK {
			t.Fatalf("Canonical of Greedy(%v): %v, error %d", c, l, e)
		}
	}
}

// P4.6: Least.
func TestLeast(t *testing.T) {
	ask := func(length, count int) api.Ask { return api.Ask{Length: length, Count: count} }
	for _, c := range []struct {
		c    api.Cutting
		want int
	}{
		{example(), 3},
		{api.Cutting{Length: 10}, 0},
		{api.Cutting{Length: 10, Asks: []api.Ask{ask(5, 0)}}, 0},
		{api.Cutting{Length: 10, Asks: []api.Ask{ask(10, 10)}}, 10},
		{api.Cutting{Length: 10, Asks: []api.Ask{ask(1, 10)}}, 1},
		{api.Cutting{Length: 10, Kerf: 1, Asks: []api.Ask{ask(1, 10)}}, 2},
		{api.Cutting{Length: 19, Kerf: 1, Asks: []api.Ask{ask(1, 10)}}, 1},
		// where Greedy needs one more: 45 + 27 + 27, 33 + 33 + 33
		{api.Cutting{Length: 99, Asks: []api.Ask{ask(45, 2), ask(33, 3), ask(27, 4)}}, 3},
		{api.Cutting{Length: 1000, Kerf: 20, Asks: []api.Ask{ask(1000, 4), ask(490, 6)}}, 7},
		{api.Cutting{Length: 1000, Kerf: 20, Asks: []api.Ask{ask(1000, 4), ask(491, 6)}}, 10},
		{api.Cutting{Length: 1000, Asks: slices.Repeat([]api.Ask{ask(600, 1)}, 8)}, 8},
	} {
		if n, e := cut.Least(c.c); n != c.want || e != api.OK {
			t.Errorf("Least(%v): %d, error %d, not %d", c.c, n, e, c.want)
		}
	}
	for _, c := range []api.Cutting{
		{Length: 10, Asks: []api.Ask{ask(1, 11)}}, {Length: 10, Asks: []api.Ask{ask(1, 5), ask(2, 6)}},
		{Length: 10, Asks: []api.Ask{ask(1, 50)}}, greatest(),
	} {
		if n, e := cut.Least(c); n != 0 || e != api.ErrWide {
			t.Errorf("Least(%v): %d, error %d", c, n, e)
		}
	}
}

// smallCutting returns a cutting with at most MaxExact pieces.
func smallCutting(random *rand.Rand) api.Cutting {
	for {
		c := someCutting(random, 5)
		pieces := 0
		for _, a := range c.Asks {
			pieces += a.Count
		}
		if pieces <= api.MaxExact {
			return c
		}
	}
}

// P4.6: Least is as the second way says.
func TestLeastOfSomeCuttings(t *testing.T) {
	random := rand.New(rand.NewPCG(4, 6))
	greedyFails := false
	for range 1500 {
		c := smallCutting(random)
		n, e := cut.Least(c)
		if want := referenceLeast(c); n != want || e != api.OK {
			t.Fatalf("Least(%v): %d, error %d, not %d", c, n, e, want)
		}
		greedy, _ := cut.Greedy(c)
		rolls, _ := cut.Rolls(c, greedy)
		greedyFails = greedyFails || rolls > n
	}
	if !greedyFails {
		t.Error("no cutting for which Greedy needs more rolls than Least")
	}
}

// P4.10: Bound is at most Rolls of every plan, at most Least, and Least at most Rolls of Greedy.
func TestBounds(t *testing.T) {
	random := rand.New(rand.NewPCG(4, 10))
	for range 3000 {
		c := someCutting(random, 50)
		prices := somePrices(random, c)
		bound, e1 := cut.Bound(c, prices)
		rolls, e2 := cut.Rolls(c, somePlan(random, c))
		if e1 != api.OK || e2 != api.OK || bound > rolls {
			t.Fatalf("%v with prices %v: bound %d, a plan with %d rolls, errors %d, %d", c, prices, bound, rolls, e1, e2)
		}
		c = smallCutting(random)
		bound, e1 = cut.Bound(c, somePrices(random, c))
		least, e2 := cut.Least(c)
		greedy, _ := cut.Greedy(c)
		most, e3 := cut.Rolls(c, greedy)
		if e1 != api.OK || e2 != api.OK || e3 != api.OK || bound > least || least > most {
			t.Fatalf("%v: bound %d, least %d, greedy %d, errors %d, %d, %d", c, bound, least, most, e1, e2, e3)
		}
	}
}

// P4.14: a longer roll, or a lesser kerf, never needs more rolls (Least); more pieces never fewer.
func TestMore(t *testing.T) {
	random := rand.New(rand.NewPCG(4, 14))
	for range 3000 {
		c := smallCutting(random)
		least, _ := cut.Least(c)
		longer, finer, fewer := c, c, c
		longer.Length = min(1000, c.Length+1+random.IntN(20))
		finer.Kerf = c.Kerf / 2
		fewer.Asks = slices.Clone(c.Asks)
		if len(c.Asks) > 0 {
			i := random.IntN(len(c.Asks))
			fewer.Asks[i].Count = max(0, c.Asks[i].Count-1)
		}
		for _, other := range []api.Cutting{longer, finer, fewer} {
			if n, e := cut.Least(other); n > least || e != api.OK {
				t.Fatalf("%v needs %d, and %v needs %d, error %d", c, least, other, n, e)
			}
		}
	}
}

// R4: no argument of a cutting's function is changed, also behind its length, and results are new memory.
func TestPlanMemory(t *testing.T) {
	asks := append(example().Asks, api.Ask{Length: 77, Count: 7})
	c := api.Cutting{Length: 100, Asks: asks[:3]}
	plan := append(examplePlan(), api.Batch{Times: 4, Counts: []int{0, 0, 0}}, api.Batch{Times: 9, Counts: []int{7, 7, 7, 7}})
	slices.Reverse(plan[:4])
	for i := range plan {
		plan[i].Counts = append(plan[i].Counts, 9)[:len(plan[i].Counts)]
	}
	prices := []int{60, 40, 30, 9}
	oldAsks, oldPlan, oldPrices := slices.Clone(asks), clonePlan(plan), slices.Clone(prices)
	canonical, _ := cut.Canonical(c, plan[:4])
	greedy, _ := cut.Greedy(c)
	cut.Valid(c)
	cut.Fits(c, plan[0].Counts)
	cut.Check(c, plan[:4])
	cut.Rolls(c, plan[:4])
	cut.Waste(c, plan[:4])
	cut.Dearest(c, prices[:3])
	cut.Bound(c, prices[:3])
	cut.Least(c)
	if !slices.Equal(asks, oldAsks) || !reflect.DeepEqual(plan, oldPlan) || !slices.Equal(prices, oldPrices) {
		t.Errorf("arguments were changed: %v, %v, %v", asks, plan, prices)
	}
	for _, result := range [][]api.Batch{canonical, greedy} {
		for i := range result {
			before := clonePlan(result)
			for j := range result[i].Counts {
				result[i].Counts[j] = 99
			}
			_ = append(result[i].Counts, 99)
			before[i].Counts = []int{99, 99, 99}
			if !reflect.DeepEqual(before, result) || !reflect.DeepEqual(plan, oldPlan) {
				t.Errorf("the batch %d shares memory with another one", i)
			}
		}
	}
}
