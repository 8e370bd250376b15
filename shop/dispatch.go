package shop

import (
	"slices"

	"blazon/api"
)

// draft is a plan that grows, with the steps that were added to it last.
type draft struct {
	plan      [][]int
	ofJob     map[int]placed
	ofMachine map[int]placed
}

func newDraft(s api.Shop) draft {
	return draft{make([][]int, len(s.Jobs)), map[int]placed{}, map[int]placed{}}
}

// earliest returns the earliest start of a step behind those of its job and of its machine that were added.
func (d draft) earliest(s api.Shop, p placed) int {
	t := 0
	if last, ok := d.ofJob[p.job]; ok {
		t = last.dry()
	}
	if last, ok := d.ofMachine[p.Machine]; ok {
		t = max(t, last.ready(p.task, s))
	}
	return next(s, t, p.Minutes)
}

func (d draft) add(p placed) {
	d.plan[p.job] = append(d.plan[p.job], p.start)
	d.ofJob[p.job] = p
	d.ofMachine[p.Machine] = p
}

// candidates returns the next steps of the jobs that have one, with their earliest starts.
func (d draft) candidates(s api.Shop) []placed {
	var all []placed
	for i, w := range s.Jobs {
		if k := len(d.plan[i]); k < len(w.Steps) {
			p := placed{task: task(w.Steps[k]), job: i, number: k}
			p.start = d.earliest(s, p)
			all = append(all, p)
		}
	}
	return all
}

// Dispatch returns the plan that always takes the step next that can start first.
func Dispatch(s api.Shop) ([][]int, api.Errno) {
	if !Valid(s) {
		return nil, api.ErrShop
	}
	d := newDraft(s)
	for all := d.candidates(s); len(all) > 0; all = d.candidates(s) {
		d.add(slices.MinFunc(all, placed.compare))
	}
	return d.plan, api.OK
}

// Pull returns a plan that is as early as the orders of another one on its machines allow.
func Pull(s api.Shop, plan [][]int) ([][]int, api.Errno) {
	if _, _, err := Judge(s, plan); err != api.OK {
		return nil, err
	}
	d := newDraft(s)
	// No two steps of a job start together, so they are added in their order.
	for _, p := range inOrder(s, plan) {
		p.start = d.earliest(s, p)
		d.add(p)
	}
	return d.plan, api.OK
}
