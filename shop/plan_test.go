package shop_test

import (
	"math"
	"math/rand/v2"
	"slices"
	"testing"

	"blazon/api"
	"blazon/shop"
)

// two is a shop with two machines, of which the second needs no setup.
func two() api.Shop {
	s := plain()
	s.Machines, s.Setup, s.Holidays = 2, []int{30, 0}, []int{2}
	s.Jobs = []api.Work{
		steps([4]int{0, 60, 1, 10}, [4]int{1, 20, 1, 0}, [4]int{0, 60, 1, 0}),
		steps([4]int{0, 60, 2, 0}),
		{},
		steps([4]int{1, 20, 2, 0}, [4]int{0, 60, 2, 0}),
	}
	return s
}

// rightPlan is a right plan for the shop two without a minute to spare on the first day.
func rightPlan() [][]int {
	return [][]int{{480, 550, 570}, {660}, nil, {530, 720}}
}

// P5.4: Judge of a plan that is right and of such that are wrong for one reason.
func TestJudge(t *testing.T) {
	change := func(job, step, start int) [][]int {
		plan := rightPlan()
		plan[job][step] = start
		return plan
	}
	for _, c := range []struct {
		plan      [][]int
		job, step int
		err       api.Errno
	}{
		{rightPlan(), 0, 0, api.OK},
		{change(0, 0, 479), 0, 0, api.ErrShift},
		{change(1, 0, 900), 0, 0, api.OK},
		{change(1, 0, 901), 1, 0, api.ErrShift},
		{change(1, 0, 960), 1, 0, api.ErrShift},
		{change(1, 0, 1440), 1, 0, api.ErrShift},
		{change(1, 0, 1440+480), 0, 0, api.OK},
		{change(1, 0, 2*1440+480), 1, 0, api.ErrShift}, // a holiday
		{change(1, 0, 3*1440+480), 0, 0, api.OK},
		{change(1, 0, 0), 1, 0, api.ErrShift},
		{change(1, 0, maxTime), 0, 0, api.OK}, // minute 640 of its day
		{change(1, 0, maxTime-160), 0, 0, api.OK},
		{change(1, 0, maxTime-161), 1, 0, api.ErrShift},
		{change(3, 1, 660+480), 3, 1, api.ErrShift},
		{change(0, 1, 549), 0, 1, api.ErrEarly},
		{change(0, 2, 569), 0, 2, api.ErrEarly},
		{change(0, 2, 480), 0, 2, api.ErrEarly},
		{change(0, 0, 481), 0, 1, api.ErrEarly},
		{change(3, 0, 701), 3, 1, api.ErrEarly},
		{change(3, 0, 700), 0, 0, api.OK},
		{change(3, 0, 531), 0, 1, api.ErrClash}, // no setup is needed, but one of them must have ended
		{change(3, 0, 569), 0, 1, api.ErrClash},
		{change(3, 0, 570), 0, 0, api.OK},
		{change(1, 0, 480), 0, 0, api.ErrClash},
		{change(1, 0, 541), 0, 0, api.ErrClash}, // a first step is never early
		{change(1, 0, 659), 0, 2, api.ErrClash},
		{change(1, 0, 661), 1, 0, api.ErrClash},
		{change(1, 0, 779), 1, 0, api.ErrClash},
		{change(1, 0, 780), 0, 0, api.OK},
		{change(3, 1, 719), 1, 0, api.ErrClash},
	} {
		if job, step, err := shop.Judge(two(), c.plan); job != c.job || step != c.step || err != c.err {
			t.Errorf("Judge of %v: %d, %d, error %d, not %d, %d, %d", c.plan, job, step, err, c.job, c.step, c.err)
		}
	}
}

// P5.4: the setup is needed in both orders, between different colours alone, and is that of the machine.
func TestJudgeSetups(t *testing.T) {
	s := plain()
	s.Machines, s.Setup = 2, []int{7, 30}
	for _, c := range []struct {
		machines, colours [2]int
		starts            [2]int
		want              bool
	}{
		{[2]int{1, 1}, [2]int{4, 4}, [2]int{480, 490}, true},
		{[2]int{1, 1}, [2]int{4, 4}, [2]int{490, 480}, true},
		{[2]int{1, 1}, [2]int{4, 4}, [2]int{480, 489}, false},
		{[2]int{1, 1}, [2]int{4, 4}, [2]int{489, 480}, false},
		{[2]int{1, 1}, [2]int{4, 4}, [2]int{480, 480}, false},
		{[2]int{1, 1}, [2]int{4, 5}, [2]int{480, 520}, true},
		{[2]int{1, 1}, [2]int{4, 5}, [2]int{520, 480}, true},
		{[2]int{1, 1}, [2]int{4, 5}, [2]int{480, 519}, false},
		{[2]int{1, 1}, [2]int{4, 5}, [2]int{519, 480}, false},
		{[2]int{0, 0}, [2]int{4, 5}, [2]int{480, 497}, true},
		{[2]int{0, 0}, [2]int{4, 5}, [2]int{496, 480}, false},
		{[2]int{0, 1}, [2]int{4, 5}, [2]int{480, 480}, true},
		{[2]int{1, 0}, [2]int{4, 4}, [2]int{480, 485}, true},
		// the setup goes on when the shop is closed
		{[2]int{1, 1}, [2]int{4, 5}, [2]int{950, 1440 + 480}, true},
	} {
		s.Jobs = []api.Work{steps([4]int{c.machines[0], 10, c.colours[0], 900}), steps([4]int{c.machines[1], 10, c.colours[1], 900})}
		job, step, err := shop.Judge(s, [][]int{{c.starts[0]}, {c.starts[1]}})
		if job != 0 || step != 0 || (err == api.OK) != c.want || err != api.OK && err != api.ErrClash {
			t.Errorf("Judge of %v: %d, %d, error %d", c, job, step, err)
		}
	}
}

// P5.4: all errors of a kind come ahead of those of the next kind, and the first step ahead of the others.
func TestJudgeOrder(t *testing.T) {
	for _, c := range []struct {
		plan      [][]int
		job, step int
		err       api.Errno
	}{
		{[][]int{{480, 480, 480}, {480}, nil, {480, 0}}, 3, 1, api.ErrShift},
		{[][]int{{480, 480, 480}, {0}, nil, {480, 0}}, 1, 0, api.ErrShift},
		{[][]int{{480, 480, 0}, {0}, nil, {480, 0}}, 0, 2, api.ErrShift},
		{[][]int{{480, 480, 480}, {480}, nil, {480, 480}}, 0, 1, api.ErrEarly},
		{[][]int{{480, 550, 480}, {480}, nil, {480, 480}}, 0, 2, api.ErrEarly},
		{[][]int{{480, 550, 570}, {480}, nil, {480, 480}}, 3, 1, api.ErrEarly},
		{[][]int{{480, 550, 570}, {480}, nil, {550, 570}}, 0, 0, api.ErrClash},
		{[][]int{{480, 550, 570}, {660}, nil, {550, 570}}, 0, 1, api.ErrClash},
		{[][]int{{480, 550, 570}, {660}, nil, {500, 570}}, 0, 2, api.ErrClash},
		{[][]int{{480, 550, 570}, {660}, nil, {500, 660}}, 1, 0, api.ErrClash},
		{[][]int{{480, 550, 570}, {660}, nil, {500, -1}}, 0, 0, api.ErrArg},
		{[][]int{{0, 0, 0}, {0}, nil, {0}}, 0, 0, api.ErrArg},
	} {
		if job, step, err := shop.Judge(two(), c.plan); job != c.job || step != c.step || err != c.err {
			t.Errorf("Judge of %v: %d, %d, error %d, not %d, %d, %d", c.plan, job, step, err, c.job, c.step, c.err)
		}
	}
}

// P5.4: a step clashes with one of its own job, and one that stands behind another may run ahead of it.
func TestJudgeOneJob(t *testing.T) {
	s := plain()
	s.Jobs = []api.Work{steps([4]int{0, 10, 1, 0}, [4]int{0, 10, 2, 0}, [4]int{0, 10, 2, 0})}
	for _, c := range []struct {
		starts    []int
		job, step int
		err       api.Errno
	}{
		{[]int{480, 520, 530}, 0, 0, api.OK},
		{[]int{480, 519, 530}, 0, 0, api.ErrClash},
		{[]int{480, 520, 529}, 0, 2, api.ErrEarly},
	} {
		if job, step, err := shop.Judge(s, [][]int{c.starts}); job != c.job || step != c.step || err != c.err {
			t.Errorf("Judge of %v: %d, %d, error %d", c.starts, job, step, err)
		}
	}
}

// wrongPlans returns plans that have not one start in range for each step of the shop two.
func wrongPlans() [][][]int {
	plans := [][][]int{
		nil, {}, {nil, nil, nil, nil},
		{{480, 550, 570}, {660}, nil}, {{480, 550, 570}, {660}, {530, 720}}, {{480, 550, 570}, {660}, nil, {530, 720}, nil},
		{{480, 550, 570}, {660}, nil, {530, 720}, {480}}, {{480, 550}, {660}, nil, {530, 720}}, {{480, 550, 570}, nil, nil, {530, 720}},
		{{480, 550, 570, 800}, {660}, nil, {530, 720}}, {{480, 550, 570}, {660}, {800}, {530, 720}},
		{{480, 550, 570}, {660}, nil, {530}}, {{480, 550, 570}, {660}, nil, {530, 720, 800}},
	}
	for _, n := range []int{-1, maxTime + 1, math.MinInt, math.MaxInt} {
		for _, at := range [][2]int{{0, 0}, {0, 2}, {1, 0}, {3, 1}} {
			plan := rightPlan()
			plan[at[0]][at[1]] = n
			plans = append(plans, plan)
		}
	}
	return plans
}

// P5.4, P5.5, P5.8: a plan must have one start in range for each step.
func TestWrongPlans(t *testing.T) {
	for _, plan := range wrongPlans() {
		if job, step, err := shop.Judge(two(), plan); job != 0 || step != 0 || err != api.ErrArg {
			t.Errorf("Judge of %v: %d, %d, error %d", plan, job, step, err)
		}
		if end, err := shop.End(two(), plan); end != 0 || err != api.ErrArg {
			t.Errorf("End of %v: %d, error %d", plan, end, err)
		}
		for _, machine := range []int{0, 1, 2, -1} {
			if order, err := shop.Order(two(), plan, machine); len(order) != 0 || err != api.ErrArg {
				t.Errorf("Order of %v on %d: %v, error %d", plan, machine, order, err)
			}
		}
		if pulled, err := shop.Pull(two(), plan); len(pulled) != 0 || err != api.ErrArg {
			t.Errorf("Pull of %v: %v, error %d", plan, pulled, err)
		}
	}
	for _, plan := range [][][]int{nil, {}} {
		if job, step, err := shop.Judge(plain(), plan); job != 0 || step != 0 || err != api.OK {
			t.Errorf("Judge without jobs: %d, %d, error %d", job, step, err)
		}
	}
	empty := plain()
	empty.Jobs = []api.Work{{}, {Steps: []api.Step{}}}
	for _, plan := range [][][]int{{nil, nil}, {{}, {}}, make([][]int, 2, 9)} {
		if _, _, err := shop.Judge(empty, plan); err != api.OK {
			t.Errorf("Judge without steps: error %d", err)
		}
	}
	for _, plan := range [][][]int{nil, {nil}, {nil, nil, nil}} {
		if _, _, err := shop.Judge(empty, plan); err != api.ErrArg {
			t.Errorf("Judge of %v: error %d", plan, err)
		}
	}
}

// P5.5, P5.8: the errors of Judge, behind those of the arguments.
func TestErrorsOfJudge(t *testing.T) {
	for _, c := range []struct {
		job, step, start int
		err              api.Errno
	}{
		{3, 1, 0, api.ErrShift}, {3, 1, 540, api.ErrEarly}, {1, 0, 480, api.ErrClash},
	} {
		plan := rightPlan()
		plan[c.job][c.step] = c.start
		if c.err == api.ErrEarly {
			plan[3][0], plan[3][1] = 570, 580
		}
		if end, err := shop.End(two(), plan); end != 0 || err != c.err {
			t.Errorf("End of %v: %d, error %d", plan, end, err)
		}
		for _, machine := range []int{0, 1} {
			if order, err := shop.Order(two(), plan, machine); len(order) != 0 || err != c.err {
				t.Errorf("Order of %v: %v, error %d", plan, order, err)
			}
		}
		for _, machine := range []int{-1, 2, 6, math.MinInt, math.MaxInt} {
			if order, err := shop.Order(two(), plan, machine); len(order) != 0 || err != api.ErrArg {
				t.Errorf("Order of %v on %d: %v, error %d", plan, machine, order, err)
			}
			if order, err := shop.Order(two(), rightPlan(), machine); len(order) != 0 || err != api.ErrArg {
				t.Errorf("Order on %d: %v, error %d", machine, order, err)
			}
		}
		if pulled, err := shop.Pull(two(), plan); len(pulled) != 0 || err != c.err {
			t.Errorf("Pull of %v: %v, error %d", plan, pulled, err)
		}
	}
}

// P5.5: End and Order.
func TestEndAndOrder(t *testing.T) {
	if end, err := shop.End(two(), rightPlan()); end != 780 || err != api.OK {
		t.Errorf("End: %d, error %d", end, err)
	}
	plan := [][]int{{1440 + 480, 1440 + 550, 1440 + 570}, {540}, nil, {480, 3*1440 + 480}}
	if end, err := shop.End(two(), plan); end != 3*1440+540 || err != api.OK {
		t.Errorf("End: %d, error %d", end, err)
	}
	for _, c := range []struct {
		plan    [][]int
		machine int
		want    [][2]int
	}{
		{rightPlan(), 0, [][2]int{{0, 0}, {0, 2}, {1, 0}, {3, 1}}},
		{rightPlan(), 1, [][2]int{{3, 0}, {0, 1}}},
		{plan, 0, [][2]int{{1, 0}, {0, 0}, {0, 2}, {3, 1}}},
		{plan, 1, [][2]int{{3, 0}, {0, 1}}},
	} {
		if order, err := shop.Order(two(), c.plan, c.machine); !slices.Equal(order, c.want) || err != api.OK {
			t.Errorf("Order of %v on %d: %v, error %d", c.plan, c.machine, order, err)
		}
	}
	for _, s := range []api.Shop{plain(), narrow()} {
		s.Jobs = slices.Repeat([]api.Work{{}}, 12)
		if end, err := shop.End(s, make([][]int, 12)); end != 0 || err != api.OK {
			t.Errorf("End without steps: %d, error %d", end, err)
		}
		if order, err := shop.Order(s, make([][]int, 12), 0); len(order) != 0 || err != api.OK {
			t.Errorf("Order without steps: %v, error %d", order, err)
		}
	}
	late := narrow()
	late.Open = 0
	if end, err := shop.End(late, [][]int{{maxTime}}); end != maxTime+1 || err != api.OK {
		t.Errorf("End at the limit: %d, error %d", end, err)
	}
}

// P5.4, P5.5: plans are judged, ended and ordered as the second way says.
func TestSomePlans(t *testing.T) {
	r := rand.New(rand.NewPCG(5, 4))
	seen := map[api.Errno]int{}
	for range 6000 {
		s := someShop(r, 5)
		plan := somePlan(r, s, 600)
		if all := spots(s); len(all) > 0 {
			for range r.IntN(3) {
				p := all[r.IntN(len(all))]
				plan[p.job][p.step] = max(0, plan[p.job][p.step]+r.IntN(9)-4-1440*r.IntN(2))
			}
		}
		job, step, err := shop.Judge(s, plan)
		if j, k, e := referenceJudge(s, plan); job != j || step != k || err != e {
			t.Fatalf("Judge of %v, %v: %d, %d, error %d, not %d, %d, %d", s, plan, job, step, err, j, k, e)
		}
		seen[err]++
		if err != api.OK {
			continue
		}
		if end, e := shop.End(s, plan); end != referenceEnd(s, plan) || e != api.OK {
			t.Fatalf("End of %v, %v: %d, error %d", s, plan, end, e)
		}
		for machine := range s.Machines {
			if order, e := shop.Order(s, plan, machine); !slices.Equal(order, referenceOrder(s, plan, machine)) || e != api.OK {
				t.Fatalf("Order of %v, %v, %d: %v, error %d", s, plan, machine, order, e)
			}
		}
	}
	for _, err := range []api.Errno{api.OK, api.ErrShift, api.ErrEarly, api.ErrClash} {
		if seen[err] < 100 {
			t.Errorf("the error %d came only %d times", err, seen[err])
		}
	}
}
