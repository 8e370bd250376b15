package shop

import (
	"cmp"
	"slices"

	"blazon/api"
)

// task is a step as its machine sees it.
type task api.Step

// setup returns the minutes that the machine of a needs between a and b, which is on it too.
func (a task) setup(b task, s api.Shop) int {
	if a.Colour == b.Colour {
		return 0
	}
	return s.Setup[a.Machine]
}

// placed is a step with its place in the jobs and its start.
type placed struct {
	task
	job, number, start int
}

func (p placed) end() int {
	return p.start + p.Minutes
}

// dry returns when the next step of the job can start.
func (p placed) dry() int {
	return p.end() + p.Dry
}

// ready returns when the machine of p can start b behind p.
func (p placed) ready(b task, s api.Shop) int {
	return p.end() + p.setup(b, s)
}

// clashes reports whether two steps are on one machine, but in neither order.
func (p placed) clashes(q placed, s api.Shop) bool {
	return p.Machine == q.Machine && q.start < p.ready(q.task, s) && p.start < q.ready(p.task, s)
}

// compare compares two steps by their starts, and by their places if these are equal.
func (p placed) compare(q placed) int {
	return cmp.Or(cmp.Compare(p.start, q.start), cmp.Compare(p.job, q.job), cmp.Compare(p.number, q.number))
}

// isPlan reports whether a plan has one start in range for each step of a shop.
func isPlan(s api.Shop, plan [][]int) bool {
	outside := func(start int) bool { return !between(start, 0, api.MaxTime) }
	return slices.EqualFunc(s.Jobs, plan, func(w api.Work, starts []int) bool {
		return len(w.Steps) == len(starts) && !slices.ContainsFunc(starts, outside)
	})
}

// allPlaced returns the steps of a shop with their starts, in the order of jobs and steps.
func allPlaced(s api.Shop, plan [][]int) []placed {
	var all []placed
	for i, w := range s.Jobs {
		for k, step := range w.Steps {
			all = append(all, placed{task(step), i, k, plan[i][k]})
		}
	}
	return all
}

// Judge returns the first error of a plan, with the job and the step that have it.
func Judge(s api.Shop, plan [][]int) (job, step int, err api.Errno) {
	if !Valid(s) {
		return 0, 0, api.ErrShop
	}
	if !isPlan(s, plan) {
		return 0, 0, api.ErrArg
	}
	all := allPlaced(s, plan)
	for _, check := range []struct {
		err   api.Errno
		wrong func(i int) bool
	}{
		{api.ErrShift, func(i int) bool { return !within(s, all[i].start, all[i].Minutes) }},
		{api.ErrEarly, func(i int) bool { return all[i].number > 0 && all[i].start < all[i-1].dry() }},
		{api.ErrClash, func(i int) bool {
			return slices.ContainsFunc(all[i+1:], func(q placed) bool { return all[i].clashes(q, s) })
		}},
	} {
		for i, p := range all {
			if check.wrong(i) {
				return p.job, p.number, check.err
			}
		}
	}
	return 0, 0, api.OK
}

// End returns the greatest end of a step of a plan.
func End(s api.Shop, plan [][]int) (int, api.Errno) {
	if _, _, err := Judge(s, plan); err != api.OK {
		return 0, err
	}
	last := 0
	for _, p := range allPlaced(s, plan) {
		last = max(last, p.end())
	}
	return last, api.OK
}

// Order returns the job and the step of all steps on a machine, in the order of a plan.
func Order(s api.Shop, plan [][]int, machine int) ([][2]int, api.Errno) {
	if !Valid(s) {
		return nil, api.ErrShop
	}
	if !between(machine, 0, s.Machines-1) {
		return nil, api.ErrArg
	}
	if _, _, err := Judge(s, plan); err != api.OK {
		return nil, err
	}
	var order [][2]int
	for _, p := range inOrder(s, plan) {
		if p.Machine == machine {
			order = append(order, [2]int{p.job, p.number})
		}
	}
	return order, api.OK
}

// inOrder returns the steps of a plan in ascending order of their starts.
func inOrder(s api.Shop, plan [][]int) []placed {
	all := allPlaced(s, plan)
	slices.SortFunc(all, placed.compare)
	return all
}
