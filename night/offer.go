package night

import (
	"slices"

	"blazon/api"
)

// offer is what plans are made from: the nights that each job may have, in ascending order, and the places of each night.
type offer struct {
	choices [][]int
	places  []int
}

func offerOf(jobs []api.Job, nights []api.Night) offer {
	o := offer{choices: choices(jobs, nights)}
	for _, n := range nights {
		o.places = append(o.places, n.Places)
	}
	return o
}

// further returns the offer with one night more, behind all others, that every job may have.
func (o offer) further(places int) offer {
	f := offer{places: append(slices.Clone(o.places), places)}
	for _, nights := range o.choices {
		f.choices = append(f.choices, append(slices.Clone(nights), len(o.places)))
	}
	return f
}

// greatest returns a plan that has as many jobs done as there can be. A job that finds no night, however the others move,
// never finds one later.
func (o offer) greatest() []int {
	plan := slices.Repeat([]int{none}, len(o.choices))
	for job := range plan {
		o.place(plan, job, 0, map[int]bool{})
	}
	return plan
}

// least returns the least complete plan, made from a complete one: each job in turn is taken out and gets the first night that
// it can have if the jobs in front of it stay where they are. It gets one, for that which it had is free.
func (o offer) least(complete []int) []int {
	plan := slices.Clone(complete)
	for job := range plan {
		plan[job] = none
		o.place(plan, job, job+1, map[int]bool{})
	}
	return plan
}

// place gives a job the first night that it can have if only jobs from the index `from` on move, and reports whether there is
// one; if there is none, the plan stays as it is. The nights that were tried stand in tried: none is tried twice in a search,
// for if no moves from it lead to a free place, none do by another way to it.
func (o offer) place(plan []int, job, from int, tried map[int]bool) bool {
	for _, n := range o.choices[job] {
		if tried[n] {
			continue
		}
		tried[n] = true
		if o.vacate(plan, n, from, tried) {
			plan[job] = n
			return true
		}
	}
	return false
}

// vacate sees to it that a night has a free place, if need be by moving one of its jobs, and reports whether it has one.
func (o offer) vacate(plan []int, night, from int, tried map[int]bool) bool {
	if count(plan, night) < o.places[night] {
		return true
	}
	for job := from; job < len(plan); job++ {
		if plan[job] == night && o.place(plan, job, from, tried) {
			return true
		}
	}
	return false
}
