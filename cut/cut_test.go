package cut_test

import (
	"math"
	"math/rand/v2"
	"slices"
	"testing"

	"blazon/api"
	"blazon/cut"
)

// example is the cutting of the chapter's first example.
func example() api.Cutting {
	return api.Cutting{Length: 100, Asks: []api.Ask{{Length: 60, Count: 2}, {Length: 40, Count: 1}, {Length: 30, Count: 3}}}
}

// examplePlan is a plan for it.
func examplePlan() []api.Batch {
	return []api.Batch{{Times: 1, Counts: []int{0, 1, 2}}, {Times: 1, Counts: []int{1, 0, 1}}, {Times: 1, Counts: []int{1, 0, 0}}}
}

// invalidCuttings returns cuttings that are not valid for one reason each.
func invalidCuttings() []api.Cutting {
	var all []api.Cutting
	add := func(change func(c *api.Cutting)) {
		c := example()
		change(&c)
		all = append(all, c)
	}
	for _, n := range []int{-1, 0, 1001, math.MinInt, math.MaxInt} {
		add(func(c *api.Cutting) {
			c.Length = n
			c.Asks = nil
		})
	}
	add(func(c *api.Cutting) {
		c.Length = 1001
	})
	for _, n := range []int{-1, 21, math.MinInt, math.MaxInt} {
		add(func(c *api.Cutting) { c.Kerf = n })
	}
	for _, n := range []int{-1, 0, 101, math.MinInt, math.MaxInt} {
		for i := range 3 {
			add(func(c *api.Cutting) { c.Asks[i].Length = n })
		}
	}
	for _, n := range []int{-1, 51, math.MinInt, math.MaxInt} {
		for i := range 3 {
			add(func(c *api.Cutting) { c.Asks[i].Count = n })
		}
	}
	add(func(c *api.Cutting) { c.Asks = slices.Repeat([]api.Ask{{Length: 1, Count: 1}}, 9) })
	add(func(c *api.Cutting) { c.Asks = slices.Repeat([]api.Ask{{Length: 1}}, 1000) })
	return append(all, api.Cutting{})
}

// greatest is the cutting with the greatest values that are allowed.
func greatest() api.Cutting {
	return api.Cutting{Length: 1000, Kerf: 20, Asks: slices.Repeat([]api.Ask{{Length: 1000, Count: 50}}, 8)}
}

// P4.2: Valid.
func TestValid(t *testing.T) {
	for _, c := range invalidCuttings() {
		if cut.Valid(c) {
			t.Errorf("the cutting is valid: %v", c)
		}
	}
	for _, c := range []api.Cutting{
		example(), greatest(), {Length: 1}, {Length: 1, Asks: []api.Ask{}}, {Length: 1, Asks: []api.Ask{{Length: 1}}},
		{Length: 1000, Kerf: 20, Asks: slices.Repeat([]api.Ask{{Length: 1}}, 8)},
		{Length: 7, Asks: []api.Ask{{Length: 7, Count: 50}, {Length: 7, Count: 50}}},
		{Length: 5, Asks: slices.Repeat([]api.Ask{{Length: 4, Count: 2}}, 9)[:8]},
	} {
		if !cut.Valid(c) {
			t.Errorf("the cutting is not valid: %v", c)
		}
	}
}

// P4.1: each function of cuttings returns ErrCutting before all other errors, and nothing else with it.
func TestCuttingErrors(t *testing.T) {
	badPlan := make([]api.Batch, 1001)
	badPrices := []int{-1}
	for _, c := range invalidCuttings() {
		for _, arguments := range []struct {
			plan            []api.Batch
			pattern, prices []int
		}{{badPlan, badPrices, badPrices}, {examplePlan(), []int{0, 0, 0}, []int{1, 1, 1}}, {}} {
			if is, e := cut.Fits(c, arguments.pattern); is || e != api.ErrCutting {
				t.Errorf("Fits(%v): %v, error %d", c, is, e)
			}
			if e := cut.Check(c, arguments.plan); e != api.ErrCutting {
				t.Errorf("Check(%v): error %d", c, e)
			}
			if n, e := cut.Rolls(c, arguments.plan); n != 0 || e != api.ErrCutting {
				t.Errorf("Rolls(%v): %d, error %d", c, n, e)
			}
			if n, e := cut.Waste(c, arguments.plan); n != 0 || e != api.ErrCutting {
				t.Errorf("Waste(%v): %d, error %d", c, n, e)
			}
			if l, e := cut.Canonical(c, arguments.plan); l != nil || e != api.ErrCutting {
				t.Errorf("Canonical(%v): %v, error %d", c, l, e)
			}
			if n, e := cut.Dearest(c, arguments.prices); n != 0 || e != api.ErrCutting {
				t.Errorf("Dearest(%v): %d, error %d", c, n, e)
			}
			if n, e := cut.Bound(c, arguments.prices); n != 0 || e != api.ErrCutting {
				t.Errorf("Bound(%v): %d, error %d", c, n, e)
			}
		}
		if l, e := cut.Greedy(c); l != nil || e != api.ErrCutting {
			t.Errorf("Greedy(%v): %v, error %d", c, l, e)
		}
		if n, e := cut.Least(c); n != 0 || e != api.ErrCutting {
			t.Errorf("Least(%v): %d, error %d", c, n, e)
		}
	}
}

// P4.2: Fits.
func TestFits(t *testing.T) {
	kerf := example()
	kerf.Kerf = 2 // the room is 102, the sizes are 62, 42 and 32
	// the room is 103, the sizes are 34 and 35
	edge := api.Cutting{Length: 100, Kerf: 3, Asks: []api.Ask{{Length: 31, Count: 1}, {Length: 32}}}
	long := api.Cutting{Length: 1000, Asks: []api.Ask{{Length: 1, Count: 1}, {Length: 20}}}
	for _, c := range []struct {
		c       api.Cutting
		pattern []int
		want    bool
	}{
		{example(), []int{0, 0, 0}, true},
		{example(), []int{1, 1, 0}, true},
		{example(), []int{0, 1, 2}, true},
		{example(), []int{0, 0, 3}, true},
		{example(), []int{0, 0, 4}, false},
		{example(), []int{1, 0, 2}, false},
		{example(), []int{2, 0, 0}, false},
		{example(), []int{1, 1, -1}, false},
		{example(), []int{-1, 0, 0}, false},
		{example(), []int{math.MaxInt, 0, 0}, false},
		{example(), []int{math.MinInt, 0, 0}, false},
		{example(), []int{0, math.MaxInt/40 + 1, 0}, false},
		{kerf, []int{1, 1, 0}, false},
		{kerf, []int{1, 0, 1}, true},
		{kerf, []int{0, 0, 3}, true},
		{kerf, []int{0, 1, 2}, false},
		{kerf, []int{1, 0, 0}, true},
		{edge, []int{2, 1}, true},
		{edge, []int{1, 2}, false}, // one dot too many
		{long, []int{50, 47}, true},
		{long, []int{50, 48}, false},
		{long, []int{51, 0}, false},
		{long, []int{0, 50}, true},
		{long, []int{0, 51}, false},
		{api.Cutting{Length: 5, Kerf: 20, Asks: []api.Ask{{Length: 5}}}, []int{1}, true},
		{api.Cutting{Length: 5, Kerf: 20, Asks: []api.Ask{{Length: 1}}}, []int{2}, false},
		{api.Cutting{Length: 22, Kerf: 20, Asks: []api.Ask{{Length: 1}}}, []int{2}, true},
		{api.Cutting{Length: 5}, nil, true},
		{api.Cutting{Length: 5}, []int{}, true},
	} {
		if is, e := cut.Fits(c.c, c.pattern); is != c.want || e != api.OK {
			t.Errorf("Fits(%v, %v): %v, error %d", c.c, c.pattern, is, e)
		}
	}
	for _, pattern := range [][]int{nil, {}, {0, 0}, {0, 0, 0, 0}, {-1, 1000}, make([]int, 3)[:2]} {
		if is, e := cut.Fits(example(), pattern); is || e != api.ErrArg {
			t.Errorf("Fits(%v): %v, error %d", pattern, is, e)
		}
	}
}

// planCases are plans for the example with what Check returns.
func planCases() []struct {
	plan []api.Batch
	want api.Errno
} {
	batch := func(times int, counts ...int) api.Batch { return api.Batch{Times: times, Counts: counts} }
	nothing := slices.Repeat([]api.Batch{batch(1000, 0, 0, 0)}, 1001)
	return []struct {
		plan []api.Batch
		want api.Errno
	}{
		{examplePlan(), api.OK},
		{[]api.Batch{batch(2, 1, 0, 0), batch(1, 0, 1, 0), batch(3, 0, 0, 1)}, api.OK},
		{append(examplePlan(), nothing[:997]...), api.OK},
		{append(examplePlan(), nothing[:998]...), api.ErrArg},
		{nothing, api.ErrArg},
		{nothing[:1000], api.ErrCount},
		{append(examplePlan(), batch(0, 0, 0, 0)), api.ErrArg},
		{append(examplePlan(), batch(-1, 0, 0, 0)), api.ErrArg},
		{append(examplePlan(), batch(1001, 0, 0, 0)), api.ErrArg},
		{append(examplePlan(), batch(math.MinInt, 0, 0, 0)), api.ErrArg},
		{append(examplePlan(), batch(math.MaxInt, 0, 0, 0)), api.ErrArg},
		{append(examplePlan(), batch(1, 0, 0)), api.ErrArg},
		{append(examplePlan(), batch(1, 0, 0, 0, 0)), api.ErrArg},
		{append(examplePlan(), batch(1)), api.ErrArg},
		// the first error comes first, wherever in the plan
		{[]api.Batch{batch(1, 9, 9, 9), batch(1, 0, 0)}, api.ErrArg},
		{[]api.Batch{batch(1, -1, 0, 0), batch(0, 0, 0, 0)}, api.ErrArg},
		{[]api.Batch{batch(9, 0, 0, 3), batch(1, 0, 0, 4)}, api.ErrPattern},
		{append(examplePlan(), batch(1, 2, 0, 0)), api.ErrPattern},
		{append(examplePlan(), batch(1, 1, 1, -1)), api.ErrPattern},
		{append(examplePlan(), batch(1, 0, 0, 51)), api.ErrPattern},
		{append(examplePlan(), batch(1, 0, 0, 1)), api.ErrCount},
		{append(examplePlan(), batch(1, 0, 1, 0)), api.ErrCount},
		{append(examplePlan(), batch(1, 1, 0, 0)), api.ErrCount},
		{examplePlan()[1:], api.ErrCount},
		{examplePlan()[:2], api.ErrCount},
		{[]api.Batch{batch(1000, 1, 0, 1), batch(1000, 0, 1, 1)}, api.ErrCount},
		{[]api.Batch{batch(2, 1, 0, 1), batch(1, 0, 1, 2)}, api.ErrCount},
		{nil, api.ErrCount},
		{[]api.Batch{}, api.ErrCount},
	}
}

// P4.2: Check, and the errors of Rolls, Waste and Canonical (P4.3).
func TestCheck(t *testing.T) {
	for _, c := range planCases() {
		if e := cut.Check(example(), c.plan); e != c.want {
			t.Errorf("Check(%v): error %d, not %d", c.plan, e, c.want)
		}
		if c.want == api.OK {
			continue
		}
		if n, e := cut.Rolls(example(), c.plan); n != 0 || e != c.want {
			t.Errorf("Rolls(%v): %d, error %d", c.plan, n, e)
		}
		if n, e := cut.Waste(example(), c.plan); n != 0 || e != c.want {
			t.Errorf("Waste(%v): %d, error %d", c.plan, n, e)
		}
		if l, e := cut.Canonical(example(), c.plan); l != nil || e != c.want {
			t.Errorf("Canonical(%v): %v, error %d", c.plan, l, e)
		}
	}
	for _, c := range []api.Cutting{{Length: 5}, {Length: 5, Asks: []api.Ask{{Length: 1}}}} {
		if e := cut.Check(c, nil); e != api.OK {
			t.Errorf("Check of nothing: error %d", e)
		}
		empty := api.Batch{Times: 1000, Counts: make([]int, len(c.Asks))}
		if e := cut.Check(c, slices.Repeat([]api.Batch{empty}, 1000)); e != api.OK {
			t.Errorf("Check of a plan without pieces: error %d", e)
		}
		if e := cut.Check(c, []api.Batch{{Times: 1, Counts: append(empty.Counts, 0)}}); e != api.ErrArg {
			t.Errorf("Check of a number too many: error %d", e)
		}
	}
}

// P4.3: Rolls and Waste.
func TestRollsAndWaste(t *testing.T) {
	kerf := api.Cutting{Length: 1000, Kerf: 20, Asks: []api.Ask{{Length: 490, Count: 50}}}
	nothing := slices.Repeat([]api.Batch{{Times: 1000, Counts: []int{0, 0, 0}}}, 997)
	for _, c := range []struct {
		c            api.Cutting
		plan         []api.Batch
		rolls, waste int
	}{
		{example(), examplePlan(), 3, 50},
		{example(), []api.Batch{{Times: 2, Counts: []int{1, 0, 0}}, {Times: 4, Counts: []int{0, 0, 0}}, {Times: 1, Counts: []int{0, 1, 0}}, {Times: 3, Counts: []int{0, 0, 1}}}, 10, 750},
		{example(), append(examplePlan(), nothing...), 997003, 99700050},
		{kerf, []api.Batch{{Times: 25, Counts: []int{2}}}, 25, 500},
		{kerf, []api.Batch{{Times: 50, Counts: []int{1}}}, 50, 25500},
		{greatest(), []api.Batch{
			{Times: 50, Counts: []int{1, 0, 0, 0, 0, 0, 0, 0}}, {Times: 50, Counts: []int{0, 1, 0, 0, 0, 0, 0, 0}},
			{Times: 50, Counts: []int{0, 0, 1, 0, 0, 0, 0, 0}}, {Times: 50, Counts: []int{0, 0, 0, 1, 0, 0, 0, 0}},
			{Times: 50, Counts: []int{0, 0, 0, 0, 1, 0, 0, 0}}, {Times: 50, Counts: []int{0, 0, 0, 0, 0, 1, 0, 0}},
			{Times: 50, Counts: []int{0, 0, 0, 0, 0, 0, 1, 0}}, {Times: 50, Counts: []int{0, 0, 0, 0, 0, 0, 0, 1}},
		}, 400, 0},
		{api.Cutting{Length: 5}, nil, 0, 0},
		{api.Cutting{Length: 5}, []api.Batch{{Times: 7}}, 7, 35},
	} {
		if n, e := cut.Rolls(c.c, c.plan); n != c.rolls || e != api.OK {
			t.Errorf("Rolls(%v): %d, error %d, not %d", c.plan, n, e, c.rolls)
		}
		if n, e := cut.Waste(c.c, c.plan); n != c.waste || e != api.OK {
			t.Errorf("Waste(%v): %d, error %d, not %d", c.plan, n, e, c.waste)
		}
	}
}

// P4.11: Waste is at least 0, and Length * Rolls is Waste plus the lengths of all pieces; Canonical changes neither, but
// for patterns without pieces.
func TestBalance(t *testing.T) {
	random := rand.New(rand.NewPCG(4, 11))
	for range 3000 {
		c := someCutting(random, 50)
		plan := somePlan(random, c)
		rolls, e1 := cut.Rolls(c, plan)
		waste, e2 := cut.Waste(c, plan)
		pieces, empty := 0, 0
		for _, a := range c.Asks {
			pieces += a.Count * a.Length
		}
		for _, b := range plan {
			if slices.Max(append([]int{0}, b.Counts...)) == 0 {
				empty += b.Times
			}
		}
		if e1 != api.OK || e2 != api.OK || waste < 0 || c.Length*rolls != waste+pieces {
			t.Fatalf("%v by %v: %d rolls, waste %d, errors %d, %d", c, plan, rolls, waste, e1, e2)
		}
		canonical, e := cut.Canonical(c, plan)
		rolls2, e1 := cut.Rolls(c, canonical)
		waste2, e2 := cut.Waste(c, canonical)
		if e != api.OK || e1 != api.OK || e2 != api.OK || rolls2 != rolls-empty || waste2 != waste-empty*c.Length {
			t.Fatalf("%v by %v: canonical %d rolls, waste %d, errors %d, %d, %d", c, plan, rolls2, waste2, e, e1, e2)
		}
	}
}
