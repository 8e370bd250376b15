package night

import (
	"slices"

	"blazon/api"
)

// none is the night of a job that has none.
const none = -1

// Right reports whether a plan is right.
func Right(jobs []api.Job, nights []api.Night, plan []int) (bool, api.Errno) {
	if err := listsError(jobs, nights); err != api.OK {
		return false, err
	}
	if !formed(jobs, nights, plan) {
		return false, api.ErrPlan
	}
	return right(jobs, nights, plan), api.OK
}

// Done returns how many jobs of a plan have a night.
func Done(jobs []api.Job, nights []api.Night, plan []int) (int, api.Errno) {
	if err := planError(jobs, nights, plan); err != api.OK {
		return 0, err
	}
	return done(plan), api.OK
}

// Most returns the greatest number of jobs that a right plan has done.
func Most(jobs []api.Job, nights []api.Night) (int, api.Errno) {
	if err := listsError(jobs, nights); err != api.OK {
		return 0, err
	}
	return done(offerOf(jobs, nights).greatest()), api.OK
}

// Plan returns the least complete plan that is right.
func Plan(jobs []api.Job, nights []api.Night) ([]int, api.Errno) {
	if err := listsError(jobs, nights); err != api.OK {
		return nil, err
	}
	o := offerOf(jobs, nights)
	plan := o.greatest()
	if slices.Contains(plan, none) {
		return nil, api.ErrShort
	}
	return o.least(plan), api.OK
}

// Best returns the least of the right plans that have as many jobs done as there can be. With a further night for the jobs
// that stay undone, behind all others, these plans are the complete ones, in the same order.
func Best(jobs []api.Job, nights []api.Night) ([]int, api.Errno) {
	if err := listsError(jobs, nights); err != api.OK {
		return nil, err
	}
	o := offerOf(jobs, nights)
	plan := o.greatest()
	undone := len(nights)
	best := o.further(len(jobs) - done(plan)).least(replaced(plan, none, undone))
	return replaced(best, undone, none), api.OK
}

// planError returns the error of jobs, nights and a plan that has to be right, or OK.
func planError(jobs []api.Job, nights []api.Night, plan []int) api.Errno {
	if err := listsError(jobs, nights); err != api.OK {
		return err
	}
	if !formed(jobs, nights, plan) || !right(jobs, nights, plan) {
		return api.ErrPlan
	}
	return api.OK
}

// formed reports whether a plan has for each job the index of a night, or none.
func formed(jobs []api.Job, nights []api.Night, plan []int) bool {
	return len(plan) == len(jobs) && within(none, len(nights)-1, plan...)
}

// right is Right for a plan that is formed.
func right(jobs []api.Job, nights []api.Night, plan []int) bool {
	taken := map[int]int{}
	for job, n := range plan {
		if n == none {
			continue
		}
		taken[n]++
		if taken[n] > nights[n].Places || !fits(jobs[job], nights[n]) {
			return false
		}
	}
	return true
}

// done is Done for a plan that is right.
func done(plan []int) int {
	return len(plan) - count(plan, none)
}

func count(list []int, element int) int {
	return len(indexes(len(list), func(i int) bool { return list[i] == element }))
}

// replaced returns a copy of a plan with one night in place of another.
func replaced(plan []int, from, to int) []int {
	clone := slices.Clone(plan)
	for job, n := range plan {
		if n == from {
			clone[job] = to
		}
	}
	return clone
}
