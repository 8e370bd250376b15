package night

import (
	"cmp"
	"slices"

	"blazon/api"
)

// maxWeight is the greatest weight of a job.
const maxWeight = 1000000

// Tour returns the jobs that a plan does in a night, in the order in which the crew comes to them, and how far it drives.
func Tour(jobs []api.Job, nights []api.Night, plan []int, night int) ([]int, int, api.Errno) {
	if err := planError(jobs, nights, plan); err != api.OK {
		return nil, 0, err
	}
	if !within(0, len(nights)-1, night) {
		return nil, 0, api.ErrArg
	}
	tour := indexes(len(plan), func(job int) bool { return plan[job] == night })
	if len(tour) == 0 {
		return nil, 0, api.OK
	}
	slices.SortStableFunc(tour, func(a, b int) int { return cmp.Compare(jobs[a].Chain, jobs[b].Chain) })
	return tour, jobs[tour[len(tour)-1]].Chain - jobs[tour[0]].Chain, api.OK
}

// Late returns the sum of the weights of the jobs that have no night in a plan.
func Late(jobs []api.Job, nights []api.Night, plan []int, weight []int) (int, api.Errno) {
	if err := planError(jobs, nights, plan); err != api.OK {
		return 0, err
	}
	if len(weight) != len(jobs) || !within(0, maxWeight, weight...) {
		return 0, api.ErrArg
	}
	late := 0
	for job, n := range plan {
		if n == none {
			late += weight[job]
		}
	}
	return late, api.OK
}
