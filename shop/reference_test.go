package shop_test

import (
	"math/rand/v2"
	"slices"

	"blazon/api"
)

// The tests hold the package against a second way to the same results, which follows the words of the chapter minute by
// minute.

func isHoliday(s api.Shop, day int) bool {
	return slices.Contains(s.Holidays, day)
}

// referenceWithin tries the days: a step is within the shift of one of them.
func referenceWithin(s api.Shop, start, minutes int) bool {
	for day := start/1440 - 1; day <= start/1440+1; day++ {
		if !isHoliday(s, day) && start-1440*day >= s.Open && start+minutes-1440*day <= s.Close {
			return true
		}
	}
	return false
}

func referenceNext(s api.Shop, t, minutes int) int {
	for !referenceWithin(s, t, minutes) {
		t++
	}
	return t
}

func referenceOpen(s api.Shop, minute int) bool {
	day := minute / 1440
	return !isHoliday(s, day) && minute-1440*day >= s.Open && minute-1440*day < s.Close
}

func referenceWorked(s api.Shop, from, to int) int {
	n := 0
	for ; from < to; from++ {
		if referenceOpen(s, from) {
			n++
		}
	}
	return n
}

func referenceAfter(s api.Shop, t, minutes int) int {
	for ; minutes > 0; t++ {
		if referenceOpen(s, t) {
			minutes--
		}
	}
	return t
}

// referenceOrdered reports whether a step that ends at end may have another one behind it on its machine at start.
func referenceOrdered(s api.Shop, a, b api.Step, end, start int) bool {
	return a.Colour == b.Colour && end <= start || a.Colour != b.Colour && end+s.Setup[a.Machine] <= start
}

// spot is the place of a step.
type spot struct {
	job, step int
}

func spots(s api.Shop) []spot {
	var all []spot
	for i, w := range s.Jobs {
		for k := range w.Steps {
			all = append(all, spot{i, k})
		}
	}
	return all
}

// referenceJudge looks for each error of its own.
func referenceJudge(s api.Shop, plan [][]int) (int, int, api.Errno) {
	step := func(p spot) api.Step { return s.Jobs[p.job].Steps[p.step] }
	start := func(p spot) int { return plan[p.job][p.step] }
	end := func(p spot) int { return start(p) + step(p).Minutes }
	for _, p := range spots(s) {
		if !referenceWithin(s, start(p), step(p).Minutes) {
			return p.job, p.step, api.ErrShift
		}
	}
	for _, p := range spots(s) {
		if front := (spot{p.job, p.step - 1}); p.step > 0 && start(p) < end(front)+step(front).Dry {
			return p.job, p.step, api.ErrEarly
		}
	}
	for i, p := range spots(s) {
		for k, q := range spots(s) {
			a, b := step(p), step(q)
			if k > i && a.Machine == b.Machine &&
				!referenceOrdered(s, a, b, end(p), start(q)) && !referenceOrdered(s, b, a, end(q), start(p)) {
				return p.job, p.step, api.ErrClash
			}
		}
	}
	return 0, 0, api.OK
}

func referenceEnd(s api.Shop, plan [][]int) int {
	end := 0
	for _, p := range spots(s) {
		end = max(end, plan[p.job][p.step]+s.Jobs[p.job].Steps[p.step].Minutes)
	}
	return end
}

// referenceOrder takes the earliest step of those that are left.
func referenceOrder(s api.Shop, plan [][]int, machine int) [][2]int {
	left := slices.DeleteFunc(spots(s), func(p spot) bool { return s.Jobs[p.job].Steps[p.step].Machine != machine })
	var order [][2]int
	for len(left) > 0 {
		first := 0
		for i, p := range left {
			if plan[p.job][p.step] < plan[left[first].job][left[first].step] {
				first = i
			}
		}
		order = append(order, [2]int{left[first].job, left[first].step})
		left = slices.Delete(left, first, first+1)
	}
	return order
}

// referenceDispatch goes through the minutes and starts, at the first minute at which a step can start, the first one.
func referenceDispatch(s api.Shop) [][]int {
	plan := make([][]int, len(s.Jobs))
	ready := make([]int, len(s.Jobs))
	var onMachine [6]struct {
		end, colour int
		used        bool
	}
	left := len(spots(s))
	for minute := 0; left > 0; {
		started := false
		for i, w := range s.Jobs {
			if len(plan[i]) == len(w.Steps) {
				continue
			}
			step := w.Steps[len(plan[i])]
			last := &onMachine[step.Machine]
			free := last.end
			if last.used && last.colour != step.Colour {
				free += s.Setup[step.Machine]
			}
			if minute >= ready[i] && minute >= free && referenceWithin(s, minute, step.Minutes) {
				plan[i] = append(plan[i], minute)
				last.end, last.colour, last.used = minute+step.Minutes, step.Colour, true
				ready[i] = last.end + step.Dry
				left--
				started = true
				break
			}
		}
		// A step that was started may let another one start in the same minute only on another machine; look again.
		if !started {
			minute++
		}
	}
	return plan
}

// referencePull moves steps of a right plan by single minutes towards the front until none can be moved.
func referencePull(s api.Shop, plan [][]int) [][]int {
	pulled := make([][]int, len(plan))
	for i := range plan {
		pulled[i] = make([]int, len(plan[i]))
	}
	var fronts []func(p spot) (spot, bool)
	for machine := range s.Machines {
		order := referenceOrder(s, plan, machine)
		fronts = append(fronts, func(p spot) (spot, bool) {
			i := slices.Index(order, [2]int{p.job, p.step})
			if i <= 0 {
				return spot{}, false
			}
			return spot{order[i-1][0], order[i-1][1]}, true
		})
	}
	for changed := true; changed; {
		changed = false
		for _, p := range spots(s) {
			step, least := s.Jobs[p.job].Steps[p.step], 0
			if p.step > 0 {
				front := s.Jobs[p.job].Steps[p.step-1]
				least = pulled[p.job][p.step-1] + front.Minutes + front.Dry
			}
			if q, ok := fronts[step.Machine](p); ok {
				front := s.Jobs[q.job].Steps[q.step]
				end := pulled[q.job][q.step] + front.Minutes
				for !referenceOrdered(s, front, step, end, least) {
					least++
				}
			}
			if start := referenceNext(s, least, step.Minutes); start != pulled[p.job][p.step] {
				pulled[p.job][p.step], changed = start, true
			}
		}
	}
	return pulled
}

func referenceChain(s api.Shop, job int) int {
	t := 0
	for k, step := range s.Jobs[job].Steps {
		if k > 0 {
			t += s.Jobs[job].Steps[k-1].Dry
		}
		t = referenceNext(s, t, step.Minutes) + step.Minutes
	}
	return t
}

func referenceLoad(s api.Shop, machine int) int {
	minutes := 0
	for _, p := range spots(s) {
		if step := s.Jobs[p.job].Steps[p.step]; step.Machine == machine {
			minutes += step.Minutes
		}
	}
	return referenceAfter(s, 0, minutes)
}

func referenceBound(s api.Shop) int {
	bound := 0
	for i := range s.Jobs {
		bound = max(bound, referenceChain(s, i))
	}
	for machine := range s.Machines {
		bound = max(bound, referenceLoad(s, machine))
	}
	return bound
}

// upTo returns a number from least to most, often one of these.
func upTo(r *rand.Rand, least, most int) int {
	switch r.IntN(6) {
	case 0:
		return least
	case 1:
		return most
	}
	return least + r.IntN(most-least+1)
}

// someCalendar returns a shop without jobs, with a few holidays among the first days.
func someCalendar(r *rand.Rand) api.Shop {
	s := api.Shop{Machines: 1 + r.IntN(3)}
	s.Open = upTo(r, 0, 1439)
	s.Close = upTo(r, s.Open+1, 1440)
	for day := range 12 {
		if r.IntN(4) == 0 {
			s.Holidays = append(s.Holidays, day)
		}
	}
	for range s.Machines {
		s.Setup = append(s.Setup, upTo(r, 0, 200))
	}
	return s
}

// someShop returns a shop with so many jobs at most, and few colours.
func someShop(r *rand.Rand, jobs int) api.Shop {
	s := someCalendar(r)
	longest := s.Close - s.Open
	if r.IntN(2) == 0 {
		longest = min(longest, 100)
	}
	for range r.IntN(jobs + 1) {
		var w api.Work
		for range r.IntN(4) {
			w.Steps = append(w.Steps, api.Step{Machine: r.IntN(s.Machines), Minutes: upTo(r, 1, longest), Colour: r.IntN(3), Dry: r.IntN(3) * r.IntN(700)})
		}
		s.Jobs = append(s.Jobs, w)
	}
	return s
}

// somePlan returns a plan that is right or nearly so: steps in some order, each a little behind its earliest start.
func somePlan(r *rand.Rand, s api.Shop, late int) [][]int {
	plan := make([][]int, len(s.Jobs))
	ends := make([]int, s.Machines)
	colours := make([]int, s.Machines)
	ready := make([]int, len(s.Jobs))
	for left := len(spots(s)); left > 0; {
		i := r.IntN(len(s.Jobs))
		if len(plan[i]) == len(s.Jobs[i].Steps) {
			continue
		}
		step := s.Jobs[i].Steps[len(plan[i])]
		free := ends[step.Machine]
		if free > 0 && colours[step.Machine] != step.Colour {
			free += s.Setup[step.Machine]
		}
		start := referenceNext(s, max(ready[i], free)+r.IntN(2)*r.IntN(late+1), step.Minutes)
		plan[i] = append(plan[i], start)
		ends[step.Machine], colours[step.Machine], ready[i] = start+step.Minutes, step.Colour, start+step.Minutes+step.Dry
		left--
	}
	return plan
}
