package night

import (
	"slices"

	"blazon/api"
)

// Shortage returns a shortage and true if there is no complete plan that is right. If a job finds no night in a plan that
// cannot be better, then the nights that were tried for it are full, and neither it nor the jobs that have these nights fit any
// other: together they are a shortage.
func Shortage(jobs []api.Job, nights []api.Night) ([]int, bool, api.Errno) {
	if err := listsError(jobs, nights); err != api.OK {
		return nil, false, err
	}
	o := offerOf(jobs, nights)
	plan := o.greatest()
	left := slices.Index(plan, none)
	if left < 0 {
		return nil, false, api.OK
	}
	tried := map[int]bool{}
	o.place(plan, left, 0, tried)
	return indexes(len(plan), func(job int) bool { return job == left || tried[plan[job]] }), true, api.OK
}

// IsShortage reports whether a list is a shortage.
func IsShortage(jobs []api.Job, nights []api.Night, list []int) (bool, api.Errno) {
	if err := listsError(jobs, nights); err != api.OK {
		return false, err
	}
	return ascending(list, len(jobs)) && placesFor(jobs, nights, list) < len(list), api.OK
}

// ascending reports whether a list has different indexes of a list of that length, in ascending order.
func ascending(list []int, length int) bool {
	last := -1
	for _, index := range list {
		if index <= last || index >= length {
			return false
		}
		last = index
	}
	return true
}

// placesFor returns how many places the nights have which at least one of some jobs fits.
func placesFor(jobs []api.Job, nights []api.Night, list []int) int {
	places := 0
	for _, n := range nights {
		if slices.ContainsFunc(list, func(job int) bool { return fits(jobs[job], n) }) {
			places += n.Places
		}
	}
	return places
}
