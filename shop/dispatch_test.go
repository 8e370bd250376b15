package shop_test

import (
	"math/rand/v2"
	"slices"
	"testing"

	"blazon/api"
	"blazon/shop"
)

// P5.6: Dispatch, with the chapter's example.
func TestDispatch(t *testing.T) {
	with := func(s api.Shop, jobs ...api.Work) api.Shop {
		s.Jobs = jobs
		return s
	}
	closed := plain()
	closed.Holidays = []int{0, 2}
	twice := plain()
	twice.Machines, twice.Setup = 2, []int{30, 500}
	for _, c := range []struct {
		s    api.Shop
		want [][]int
	}{
		{example(), [][]int{{480}, {630}, {540}}},
		{plain(), nil},
		{with(plain(), api.Work{}, api.Work{}), [][]int{nil, nil}},
		{with(plain(), api.Work{}, steps([4]int{0, 480, 1, 0})), [][]int{nil, {480}}},
		// a step that can start at once comes ahead of one in front that must dry
		{with(plain(), steps([4]int{0, 10, 1, 5}, [4]int{0, 10, 1, 0}), steps([4]int{0, 10, 1, 0}, [4]int{0, 10, 1, 0})), [][]int{{480, 500}, {490, 510}}},
		// drying goes on at night, and for the last step it is of no use
		{with(plain(), steps([4]int{0, 400, 1, 1040}, [4]int{0, 1, 1, 10000})), [][]int{{480, 1920}}},
		{with(plain(), steps([4]int{0, 400, 1, 1041}, [4]int{0, 1, 1, 10000})), [][]int{{480, 1921}}},
		// a setup goes on at night
		{with(plain(), steps([4]int{0, 480, 1, 0}), steps([4]int{0, 480, 2, 0})), [][]int{{480}, {1920}}},
		// a setup is needed for the step that was planned there last alone
		{with(plain(), steps([4]int{0, 10, 1, 0}, [4]int{0, 10, 2, 0}, [4]int{0, 10, 1, 0})), [][]int{{480, 520, 560}}},
		// a step that fits behind today's work comes ahead of a longer one in front
		{with(plain(), steps([4]int{0, 300, 1, 0}), steps([4]int{0, 300, 1, 0}), steps([4]int{0, 180, 1, 0})), [][]int{{480}, {1920}, {780}}},
		{with(closed, steps([4]int{0, 480, 1, 0}), steps([4]int{0, 480, 1, 0})), [][]int{{1920}, {4800}}},
		{with(twice, steps([4]int{0, 10, 1, 0}, [4]int{1, 10, 1, 0}), steps([4]int{1, 10, 2, 0}, [4]int{0, 10, 2, 0})), [][]int{{480, 1920}, {480, 520}}},
		{with(narrow(), steps([4]int{0, 1, 0, 0}, [4]int{0, 1, 0, 0}), steps([4]int{0, 1, 0, 0})), [][]int{{1439, 2879}, {4319}}},
	} {
		if plan, err := shop.Dispatch(c.s); !samePlan(plan, c.want) || err != api.OK {
			t.Errorf("Dispatch of %v: %v, error %d, not %v", c.s, plan, err, c.want)
		}
	}
}

// P5.6: of several steps that can start first, that of the job in front.
func TestDispatchTies(t *testing.T) {
	s := plain()
	s.Machines, s.Setup = 2, []int{0, 0}
	s.Jobs = []api.Work{
		steps([4]int{1, 5, 1, 0}, [4]int{0, 30, 1, 0}), steps([4]int{0, 5, 2, 0}, [4]int{0, 40, 2, 0}), steps([4]int{1, 5, 3, 0}, [4]int{0, 50, 3, 0}),
	}
	want := [][]int{{480, 485}, {480, 515}, {485, 555}}
	if plan, err := shop.Dispatch(s); !samePlan(plan, want) || err != api.OK {
		t.Errorf("Dispatch: %v, error %d", plan, err)
	}
}

// P5.6, P5.10: at the limits no start passes MaxTime.
func TestDispatchGreatest(t *testing.T) {
	s := greatest()
	plan, err := shop.Dispatch(s)
	// on the ninth day the first job is dry again, and in front of the ninth one
	if err != api.OK || len(plan) != 12 || plan[7][0] != 7*1440 || plan[0][1] != 8*1440 || plan[11][7] != 123*1440 {
		t.Fatalf("Dispatch: %v, error %d", plan, err)
	}
	if _, _, err := shop.Judge(s, plan); err != api.OK {
		t.Errorf("Judge of %v: error %d", plan, err)
	}
	if end, err := shop.End(s, plan); end > maxTime || err != api.OK {
		t.Errorf("End: %d, error %d", end, err)
	}
	s.Holidays = countUp(0, 400)
	if plan, err := shop.Dispatch(s); plan[0][0] != 400*1440 || err != api.OK {
		t.Errorf("Dispatch behind the holidays: %v, error %d", plan, err)
	}
}

// P5.6, P5.10: Dispatch is as the second way says, and Judge accepts it.
func TestDispatchOfSomeShops(t *testing.T) {
	r := rand.New(rand.NewPCG(5, 6))
	for range 1500 {
		s := someShop(r, 5)
		plan, err := shop.Dispatch(s)
		if want := referenceDispatch(s); !samePlan(plan, want) || err != api.OK {
			t.Fatalf("Dispatch of %v: %v, error %d, not %v", s, plan, err, want)
		}
		if job, step, err := shop.Judge(s, plan); err != api.OK {
			t.Fatalf("Judge of %v, %v: %d, %d, error %d", s, plan, job, step, err)
		}
	}
}

// P5.11: a job alone in one colour is dispatched within its chain.
func TestDispatchAlone(t *testing.T) {
	r := rand.New(rand.NewPCG(5, 11))
	for range 2000 {
		s := someShop(r, 4)
		for i := range s.Jobs {
			for k := range s.Jobs[i].Steps {
				s.Jobs[i].Steps[k].Colour = i
			}
			alone, _ := shop.Alone(s, i)
			plan, _ := shop.Dispatch(alone)
			end, err := shop.End(alone, plan)
			chain, _ := shop.Chain(alone, 0)
			bound, _ := shop.Bound(alone)
			if end != chain || end != bound || err != api.OK {
				t.Fatalf("End of %v for %v: %d, error %d, but Chain %d, Bound %d", plan, alone, end, err, chain, bound)
			}
		}
	}
}

// P5.8: Pull.
func TestPull(t *testing.T) {
	for _, c := range []struct {
		plan, want [][]int
	}{
		{rightPlan(), [][]int{{480, 550, 570}, {660}, nil, {480, 720}}},
		{[][]int{{480, 600, 700}, {800}, nil, {580, 890}}, [][]int{{480, 550, 570}, {660}, nil, {480, 720}}},
		{[][]int{{480, 600, 700}, {800}, nil, {620, 890}}, [][]int{{480, 550, 570}, {660}, nil, {570, 720}}},
		{[][]int{{1920, 1990, 2010}, {540}, nil, {480, 600}}, [][]int{{630, 700, 720}, {480}, nil, {480, 540}}},
		{[][]int{{6240, 6310, 6330}, {480}, nil, {6330, 6420}}, [][]int{{570, 640, 660}, {480}, nil, {660, 750}}},
		{[][]int{{4800, 4870, 4890}, {4980}, nil, {4800, 5040}}, [][]int{{480, 550, 570}, {660}, nil, {480, 720}}},
	} {
		plan, err := shop.Pull(two(), c.plan)
		if !samePlan(plan, c.want) || err != api.OK {
			t.Errorf("Pull of %v: %v, error %d, not %v", c.plan, plan, err, c.want)
		}
	}
	late := narrow()
	late.Open = 0
	if plan, err := shop.Pull(late, [][]int{{maxTime}}); !samePlan(plan, [][]int{{0}}) || err != api.OK {
		t.Errorf("Pull from the limit: %v, error %d", plan, err)
	}
	for _, plan := range [][][]int{nil, {}} {
		if got, err := shop.Pull(plain(), plan); len(got) != 0 || err != api.OK {
			t.Errorf("Pull without jobs: %v, error %d", got, err)
		}
	}
	empty := plain()
	empty.Jobs = make([]api.Work, 12)
	if got, err := shop.Pull(empty, make([][]int, 12)); len(got) != 12 || err != api.OK {
		t.Errorf("Pull without steps: %v, error %d", got, err)
	}
}

// P5.8: a step that is pulled stays within the shifts and behind the holidays.
func TestPullAtNight(t *testing.T) {
	s := plain()
	s.Holidays = []int{1, 5}
	s.Jobs = []api.Work{steps([4]int{0, 300, 1, 0}), steps([4]int{0, 300, 2, 0}), steps([4]int{0, 60, 1, 0})}
	plan, err := shop.Pull(s, [][]int{{6*1440 + 600}, {9*1440 + 480}, {9*1440 + 900}})
	if want := [][]int{{480}, {2*1440 + 480}, {2*1440 + 810}}; !samePlan(plan, want) || err != api.OK {
		t.Errorf("Pull: %v, error %d", plan, err)
	}
}

// P5.8, P5.10, P5.12: Pull is as the second way says and right, makes nothing later, keeps each Order, and is done once.
func TestPullOfSomePlans(t *testing.T) {
	r := rand.New(rand.NewPCG(5, 8))
	for range 1500 {
		s := someShop(r, 4)
		plan := somePlan(r, s, 3000)
		pulled, err := shop.Pull(s, plan)
		if want := referencePull(s, plan); !samePlan(pulled, want) || err != api.OK {
			t.Fatalf("Pull of %v, %v: %v, error %d, not %v", s, plan, pulled, err, want)
		}
		if job, step, err := shop.Judge(s, pulled); err != api.OK {
			t.Fatalf("Judge of %v, %v: %d, %d, error %d", s, pulled, job, step, err)
		}
		for _, p := range spots(s) {
			if pulled[p.job][p.step] > plan[p.job][p.step] {
				t.Fatalf("Pull of %v, %v makes a step later: %v", s, plan, pulled)
			}
		}
		if again, err := shop.Pull(s, pulled); !samePlan(again, pulled) || err != api.OK {
			t.Fatalf("Pull of %v, %v: %v, error %d", s, pulled, again, err)
		}
		for machine := range s.Machines {
			a, _ := shop.Order(s, plan, machine)
			if b, err := shop.Order(s, pulled, machine); !slices.Equal(a, b) || err != api.OK {
				t.Fatalf("Order on %d of %v, %v: %v, but of %v: %v, error %d", machine, s, plan, a, pulled, b, err)
			}
		}
	}
}

// R4: no two lists of a plan share memory, with each other or with the argument.
func TestPlansAreNew(t *testing.T) {
	given := rightPlan()
	pulled, _ := shop.Pull(two(), given)
	dispatched, _ := shop.Dispatch(two())
	for _, plan := range [][][]int{pulled, dispatched} {
		kept := clonePlan(plan)
		for i := range plan {
			kept[i] = append(kept[i], -1)
			plan[i] = append(plan[i], -1)
		}
		if !samePlan(plan, kept) {
			t.Errorf("the lists of a plan share memory: %v, not %v", plan, kept)
		}
		for i := range plan {
			for k := range plan[i] {
				plan[i][k] = -2
			}
		}
	}
	if !samePlan(given, rightPlan()) {
		t.Errorf("Pull returns a part of its argument: %v", given)
	}
	order, _ := shop.Order(two(), given, 0)
	order[0] = [2]int{7, 7}
	if again, _ := shop.Order(two(), given, 0); again[0] != [2]int{0, 0} {
		t.Errorf("Order returns what it keeps: %v", again)
	}
}
