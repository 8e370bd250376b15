package shop_test

import (
	"math"
	"reflect"
	"slices"
	"testing"

	"blazon/api"
	"blazon/shop"
)

// steps returns a job with steps of so many numbers each: machine, minutes, colour, dry.
func steps(rows ...[4]int) api.Work {
	var w api.Work
	for _, r := range rows {
		w.Steps = append(w.Steps, api.Step{Machine: r[0], Minutes: r[1], Colour: r[2], Dry: r[3]})
	}
	return w
}

// plain is a shop without holidays, open from 480 to 960, with one machine and no jobs.
func plain() api.Shop {
	return api.Shop{Open: 480, Close: 960, Machines: 1, Setup: []int{30}}
}

// example is the shop of the chapter's second example.
func example() api.Shop {
	s := plain()
	s.Jobs = []api.Work{steps([4]int{0, 60, api.Red, 0}), steps([4]int{0, 60, api.Blue, 0}), steps([4]int{0, 60, api.Red, 0})}
	return s
}

// good is a shop with something of everything.
func good() api.Shop {
	return api.Shop{
		Open: 420, Close: 1020, Holidays: []int{0, 3, 4, 5}, Machines: 3, Setup: []int{20, 0, 90},
		Jobs: []api.Work{
			steps([4]int{0, 100, 1, 60}, [4]int{1, 600, 2, 1440}, [4]int{0, 10, 1, 0}),
			{},
			steps([4]int{2, 45, 9, 0}, [4]int{0, 30, 0, 10000}),
			steps([4]int{1, 1, 0, 5}),
		},
	}
}

// greatest is a shop at its upper limits.
func greatest() api.Shop {
	s := api.Shop{Open: 0, Close: 1440, Machines: 6, Setup: slices.Repeat([]int{1000}, 6)}
	for day := 9601; day <= 10000; day++ {
		s.Holidays = append(s.Holidays, day)
	}
	row := [4]int{5, 1440, 9, 10000}
	s.Jobs = slices.Repeat([]api.Work{steps(row, row, row, row, row, row, row, row)}, 12)
	for i := range s.Jobs {
		s.Jobs[i].Steps = slices.Clone(s.Jobs[i].Steps)
	}
	return s
}

// narrow is a shop with the shortest shift.
func narrow() api.Shop {
	return api.Shop{Open: 1439, Close: 1440, Machines: 1, Setup: []int{0}, Jobs: []api.Work{steps([4]int{0, 1, 0, 0})}}
}

func cloneShop(s api.Shop) api.Shop {
	s.Holidays, s.Setup, s.Jobs = slices.Clone(s.Holidays), slices.Clone(s.Setup), slices.Clone(s.Jobs)
	for i := range s.Jobs {
		s.Jobs[i].Steps = slices.Clone(s.Jobs[i].Steps)
	}
	return s
}

func clonePlan(plan [][]int) [][]int {
	clone := slices.Clone(plan)
	for i := range clone {
		clone[i] = slices.Clone(clone[i])
	}
	return clone
}

// samePlan reports whether two plans are equal; an empty list and nil are the same.
func samePlan(a, b [][]int) bool {
	return slices.EqualFunc(a, b, slices.Equal[[]int])
}

// invalidShops returns shops that are not valid for one reason each.
func invalidShops() []api.Shop {
	var shops []api.Shop
	change := func(f func(s *api.Shop)) {
		s := good()
		f(&s)
		shops = append(shops, s)
	}
	for _, n := range []int{-1, 1020, 1021, math.MinInt, math.MaxInt} {
		change(func(s *api.Shop) { s.Open = n })
	}
	for _, n := range []int{1441, 420, 419, 0, -1, math.MinInt, math.MaxInt} {
		change(func(s *api.Shop) { s.Close = n })
	}
	for _, holidays := range [][]int{
		{-1}, {10001}, {math.MinInt}, {math.MaxInt}, {3, 3}, {4, 3}, {0, 0}, {1, 2, 3, 3, 4}, {9999, 10000, 10001}, {-1, 0}, countUp(0, 401),
	} {
		change(func(s *api.Shop) { s.Holidays = holidays })
	}
	for _, n := range []int{0, -1, 1, 2, 4, 6, 7, math.MinInt, math.MaxInt} {
		change(func(s *api.Shop) { s.Machines = n })
	}
	for _, setup := range [][]int{
		nil, {0}, {1, 2}, {1, 2, 3, 4}, {-1, 2, 3}, {1, 2, -1}, {1, 1001, 3}, {1, 2, 1001}, {math.MinInt, 0, 0}, {0, 0, math.MaxInt},
	} {
		change(func(s *api.Shop) { s.Setup = setup })
	}
	change(func(s *api.Shop) { s.Machines, s.Setup, s.Jobs = 0, nil, nil })
	change(func(s *api.Shop) { s.Open, s.Jobs = s.Close, nil })
	change(func(s *api.Shop) { s.Open, s.Close, s.Jobs = 0, 0, nil })
	change(func(s *api.Shop) { s.Machines, s.Setup = 7, slices.Repeat([]int{1}, 7) })
	change(func(s *api.Shop) { s.Jobs = slices.Repeat(s.Jobs[1:2], 13) })
	change(func(s *api.Shop) { s.Jobs[1].Steps = slices.Repeat([]api.Step{{Minutes: 1}}, 9) })
	for _, f := range stepFields() {
		for _, n := range []int{f.least - 1, f.most + 1, math.MinInt, math.MaxInt} {
			for _, at := range [][2]int{{0, 0}, {0, 2}, {3, 0}} {
				change(func(s *api.Shop) { *f.field(&s.Jobs[at[0]].Steps[at[1]]) = n })
			}
		}
	}
	return append(shops, api.Shop{})
}

// stepFields are the fields of a step with the least and the greatest values that they may have in the good shop.
func stepFields() []struct {
	field       func(p *api.Step) *int
	least, most int
} {
	return []struct {
		field       func(p *api.Step) *int
		least, most int
	}{
		{func(p *api.Step) *int { return &p.Machine }, 0, 2},
		{func(p *api.Step) *int { return &p.Minutes }, 1, 600},
		{func(p *api.Step) *int { return &p.Colour }, 0, 9},
		{func(p *api.Step) *int { return &p.Dry }, 0, 10000},
	}
}

// countUp returns the numbers from first on.
func countUp(first, count int) []int {
	var all []int
	for n := range count {
		all = append(all, first+n)
	}
	return all
}

// P5.2: Valid, at the limits and just beyond them.
func TestValid(t *testing.T) {
	for _, s := range invalidShops() {
		if shop.Valid(s) {
			t.Errorf("the shop is valid: %v", s)
		}
	}
	shops := []api.Shop{plain(), example(), good(), greatest(), narrow()}
	change := func(f func(s *api.Shop)) {
		s := good()
		f(&s)
		shops = append(shops, s)
	}
	change(func(s *api.Shop) { s.Open = 0 })
	change(func(s *api.Shop) { s.Close = 1440 })
	for _, holidays := range [][]int{nil, {}, {0}, {10000}, {0, 10000}, {0, 1}, countUp(0, 400)} {
		change(func(s *api.Shop) { s.Holidays = holidays })
	}
	change(func(s *api.Shop) { s.Setup = []int{0, 0, 0} })
	change(func(s *api.Shop) { s.Setup = []int{1000, 1000, 1000} })
	change(func(s *api.Shop) { s.Machines, s.Setup = 6, countUp(0, 6) })
	change(func(s *api.Shop) { s.Machines, s.Setup, s.Jobs = 1, []int{0}, nil })
	change(func(s *api.Shop) { s.Jobs = slices.Repeat(s.Jobs[1:2], 12) })
	change(func(s *api.Shop) { s.Jobs[1].Steps = slices.Repeat([]api.Step{{Minutes: 1}}, 8) })
	for _, f := range stepFields() {
		for _, n := range []int{f.least, f.most} {
			change(func(s *api.Shop) { *f.field(&s.Jobs[0].Steps[2]) = n })
		}
	}
	for _, s := range shops {
		if !shop.Valid(s) {
			t.Errorf("the shop is not valid: %v", s)
		}
	}
}

// outcome is what a call returned, and whether its other results are zero.
type outcome struct {
	name string
	zero bool
	err  api.Errno
}

// outcomes calls every function that can return an error, with one number and one plan for all.
func outcomes(s api.Shop, n int, plan [][]int) []outcome {
	next, e1 := shop.Next(s, n, n)
	worked, e2 := shop.Worked(s, n, n)
	after, e3 := shop.After(s, n, n)
	job, step, e4 := shop.Judge(s, plan)
	end, e5 := shop.End(s, plan)
	dispatched, e6 := shop.Dispatch(s)
	chain, e7 := shop.Chain(s, n)
	load, e8 := shop.Load(s, n)
	bound, e9 := shop.Bound(s)
	order, e10 := shop.Order(s, plan, n)
	pulled, e11 := shop.Pull(s, plan)
	alone, e12 := shop.Alone(s, n)
	return []outcome{
		{"Next", next == 0, e1}, {"Worked", worked == 0, e2}, {"After", after == 0, e3}, {"Judge", job == 0 && step == 0, e4},
		{"End", end == 0, e5}, {"Dispatch", len(dispatched) == 0, e6}, {"Chain", chain == 0, e7}, {"Load", load == 0, e8},
		{"Bound", bound == 0, e9}, {"Order", len(order) == 0, e10}, {"Pull", len(pulled) == 0, e11},
		{"Alone", reflect.DeepEqual(alone, api.Shop{}), e12},
	}
}

// P5.1: a shop that is not valid is the first error of every function, also beside wrong arguments.
func TestErrShopFirst(t *testing.T) {
	for _, s := range invalidShops() {
		for _, n := range []int{1, 0, -1, math.MinInt, math.MaxInt} {
			for _, plan := range [][][]int{nil, {{480}}, {{-1}}, {{0, 0, 0}, nil, {0, 0}, {0}}} {
				for _, o := range outcomes(s, n, plan) {
					if !o.zero || o.err != api.ErrShop {
						t.Fatalf("%s of the invalid shop %v with %d, %v: zero %v, error %d", o.name, s, n, plan, o.zero, o.err)
					}
				}
			}
		}
	}
}

// P5.9: Alone.
func TestAlone(t *testing.T) {
	for i, w := range good().Jobs {
		want := good()
		want.Jobs = []api.Work{w}
		if got, err := shop.Alone(good(), i); !sameShop(got, want) || err != api.OK {
			t.Errorf("Alone with the job %d: %v, error %d", i, got, err)
		}
	}
	for _, job := range []int{-1, 4, math.MinInt, math.MaxInt} {
		if got, err := shop.Alone(good(), job); !reflect.DeepEqual(got, api.Shop{}) || err != api.ErrArg {
			t.Errorf("Alone with the job %d: %v, error %d", job, got, err)
		}
	}
	if got, err := shop.Alone(plain(), 0); !reflect.DeepEqual(got, api.Shop{}) || err != api.ErrArg {
		t.Errorf("Alone without jobs: %v, error %d", got, err)
	}
}

func sameShop(a, b api.Shop) bool {
	return a.Open == b.Open && a.Close == b.Close && slices.Equal(a.Holidays, b.Holidays) && a.Machines == b.Machines &&
		slices.Equal(a.Setup, b.Setup) &&
		slices.EqualFunc(a.Jobs, b.Jobs, func(v, w api.Work) bool { return slices.Equal(v.Steps, w.Steps) })
}

// R4: the shop of Alone shares no memory with its argument.
func TestAloneIsNew(t *testing.T) {
	s := good()
	alone, _ := shop.Alone(s, 0)
	alone.Holidays[0], alone.Setup[0], alone.Jobs[0].Steps[0].Minutes = 9, 9, 9
	_ = append(alone.Holidays, 9)
	if !reflect.DeepEqual(s, good()) {
		t.Errorf("the shop of Alone is part of its argument: %v", s)
	}
	for i := range s.Jobs[0].Steps {
		s.Jobs[0].Steps[i] = api.Step{}
	}
	s.Setup[1], s.Holidays[1] = 77, 2
	if alone.Jobs[0].Steps[1].Minutes != 600 || alone.Setup[1] != 0 || alone.Holidays[1] != 3 {
		t.Errorf("the shop of Alone changes with its argument: %v", alone)
	}
}

// behind returns a list that has further numbers behind its length.
func behind(list []int) []int {
	return append(slices.Clone(list), -7, -7)[:len(list)]
}

// R4: lists are read up to their length alone, and no argument is changed.
func TestArgumentsStay(t *testing.T) {
	s := good()
	s.Holidays, s.Setup = behind(s.Holidays), behind(s.Setup)
	for i, w := range s.Jobs {
		s.Jobs[i].Steps = append(slices.Clone(w.Steps), api.Step{Machine: -7})[:len(w.Steps)]
	}
	s.Jobs = append(s.Jobs, api.Work{Steps: []api.Step{{}}})[:len(s.Jobs)]
	plan, err := shop.Dispatch(s)
	if want, _ := shop.Dispatch(good()); err != api.OK || !samePlan(plan, want) {
		t.Fatalf("Dispatch: %v, error %d", plan, err)
	}
	given := make([][]int, 0, len(plan)+1)
	for _, starts := range plan {
		given = append(given, behind(starts))
	}
	given = append(given, []int{-7})[:len(plan)]
	kept, keptPlan := cloneShop(s), clonePlan(plan)
	for _, n := range []int{0, 1, 2, -1} {
		for _, o := range outcomes(s, n, given) {
			if n == 1 && o.err != api.OK {
				t.Errorf("%s: error %d", o.name, o.err)
			}
		}
	}
	if !reflect.DeepEqual(s, kept) || !samePlan(given, keptPlan) {
		t.Errorf("the arguments became %v, %v", s, given)
	}
	if hidden := append(given[0], 0)[:len(given[0])+2]; hidden[len(hidden)-1] != -7 {
		t.Errorf("what is behind a list became %v", hidden)
	}
	if s.Jobs[:5][4].Steps[0] != (api.Step{}) || s.Holidays[:6][5] != -7 || s.Setup[:5][4] != -7 || s.Jobs[0].Steps[:4][3].Machine != -7 {
		t.Errorf("what is behind the lists of the shop changed: %v", s)
	}
}
