package shop

import "blazon/api"

// Chain returns the earliest end of a job that has the shop for itself.
func Chain(s api.Shop, job int) (int, api.Errno) {
	if !Valid(s) {
		return 0, api.ErrShop
	}
	if !between(job, 0, len(s.Jobs)-1) {
		return 0, api.ErrArg
	}
	return chain(s, s.Jobs[job]), api.OK
}

// chain is Chain for a job of a valid shop.
func chain(s api.Shop, w api.Work) int {
	end, dry := 0, 0
	for _, step := range w.Steps {
		end = next(s, dry, step.Minutes) + step.Minutes
		dry = end + step.Dry
	}
	return end
}

// Load returns the earliest end of all steps on a machine if none of them waits for anything.
func Load(s api.Shop, machine int) (int, api.Errno) {
	if !Valid(s) {
		return 0, api.ErrShop
	}
	if !between(machine, 0, s.Machines-1) {
		return 0, api.ErrArg
	}
	return load(s, machine), api.OK
}

// load is Load for a machine of a valid shop.
func load(s api.Shop, machine int) int {
	minutes := 0
	for _, w := range s.Jobs {
		for _, step := range w.Steps {
			if step.Machine == machine {
				minutes += step.Minutes
			}
		}
	}
	return after(s, 0, minutes)
}

// Bound returns a time before which no plan of a shop ends.
func Bound(s api.Shop) (int, api.Errno) {
	if !Valid(s) {
		return 0, api.ErrShop
	}
	bound := 0
	for _, w := range s.Jobs {
		bound = max(bound, chain(s, w))
	}
	for machine := range s.Machines {
		bound = max(bound, load(s, machine))
	}
	return bound, api.OK
}
