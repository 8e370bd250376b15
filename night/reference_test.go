package night_test

import (
	"math/rand/v2"
	"slices"

	"blazon/api"
)

// The tests hold the package against a second way to the same results: few jobs are planned by trying out all plans and all
// lists, many jobs by sending a flow from the jobs to the places.

// referenceFits returns whether a job fits a night: no reason is against it.
func referenceFits(j api.Job, n api.Night) bool {
	switch {
	case j.Road != n.Road, j.Crew != n.Crew:
		return false
	case n.Day < j.First, n.Day > j.Last:
		return false
	case j.Chain < n.From, j.Chain > n.To:
		return false
	case j.Dry && n.Rain, j.Warm && n.Frost:
		return false
	}
	return true
}

// referenceRight counts for each night the jobs that a plan gives it.
func referenceRight(jobs []api.Job, nights []api.Night, plan []int) bool {
	for i, n := range nights {
		count := 0
		for k, j := range jobs {
			if plan[k] == i {
				count++
				if !referenceFits(j, n) {
					return false
				}
			}
		}
		if count > n.Places {
			return false
		}
	}
	return true
}

func referenceDone(plan []int) int {
	done := 0
	for _, n := range plan {
		if n != -1 {
			done++
		}
	}
	return done
}

// everyPlan calls f with every plan, right or not, in the order of plans.
func everyPlan(jobs, nights int, f func(plan []int)) {
	plan := make([]int, jobs)
	var fill func(job int)
	fill = func(job int) {
		if job == jobs {
			f(plan)
			return
		}
		for n := range nights + 1 {
			plan[job] = n
			if n == nights {
				plan[job] = -1
			}
			fill(job + 1)
		}
	}
	fill(0)
}

// referenceBest returns the first of all plans that is right and has the most jobs done.
func referenceBest(jobs []api.Job, nights []api.Night) []int {
	var best []int
	most := -1
	everyPlan(len(jobs), len(nights), func(plan []int) {
		if d := referenceDone(plan); d > most && referenceRight(jobs, nights, plan) {
			best, most = slices.Clone(plan), d
		}
	})
	return best
}

// placesOf returns how many places the nights have that one of the jobs fits which a list names.
func placesOf(jobs []api.Job, nights []api.Night, list []int) int {
	places := 0
	for _, n := range nights {
		for _, job := range list {
			if referenceFits(jobs[job], n) {
				places += n.Places
				break
			}
		}
	}
	return places
}

// everyList returns all lists of different indexes in ascending order.
func everyList(length int) [][]int {
	lists := [][]int{nil}
	for i := range length {
		for _, list := range slices.Clone(lists) {
			lists = append(lists, append(slices.Clone(list), i))
		}
	}
	return lists
}

// referenceFlow returns how many jobs can be done, by a flow: what flows back along an edge is taken back. The nights of the
// first jobs are given; it is -1 if they have not so many places.
func referenceFlow(jobs []api.Job, nights []api.Night, given []int) int {
	source, sink := len(jobs)+len(nights), len(jobs)+len(nights)+1
	room := make([][]int, sink+1)
	for i := range room {
		room[i] = make([]int, sink+1)
	}
	for i, n := range nights {
		room[len(jobs)+i][sink] = n.Places
	}
	flow := referenceDone(given)
	for _, i := range given {
		if i >= 0 {
			room[len(jobs)+i][sink]--
		}
	}
	for i := range nights {
		if room[len(jobs)+i][sink] < 0 {
			return -1
		}
	}
	for k := len(given); k < len(jobs); k++ {
		room[source][k] = 1
		for i, n := range nights {
			if referenceFits(jobs[k], n) {
				room[k][len(jobs)+i] = 1
			}
		}
	}
	for pushed(room, source, sink) {
		flow++
	}
	return flow
}

// pushed sends one more unit along a shortest way with room, and returns whether there was one.
func pushed(room [][]int, source, sink int) bool {
	from := make([]int, len(room))
	for i := range from {
		from[i] = -1
	}
	from[source] = source
	queue := []int{source}
	for len(queue) > 0 && from[sink] < 0 {
		at := queue[0]
		queue = queue[1:]
		for to := range room {
			if from[to] < 0 && room[at][to] > 0 {
				from[to] = at
				queue = append(queue, to)
			}
		}
	}
	if from[sink] < 0 {
		return false
	}
	for at := sink; at != source; at = from[at] {
		room[from[at]][at]--
		room[at][from[at]]++
	}
	return true
}

// upTo returns a number from least to most.
func upTo(r *rand.Rand, least, most int) int {
	return least + r.IntN(most-least+1)
}

// crowd says how dense some jobs and nights are.
type crowd struct {
	jobs, nights, days, chains, places int
}

// someJobs returns jobs and nights that often compete, up to as many as a crowd says. Most of the jobs fit at least one night.
func someJobs(r *rand.Rand, c crowd) ([]api.Job, []api.Night) {
	roads, crews := upTo(r, 1, 2), upTo(r, 1, 2)
	var nights []api.Night
	for range r.IntN(c.nights + 1) {
		from := upTo(r, 0, c.chains)
		nights = append(nights, api.Night{
			Day: upTo(r, 0, 2*c.days), Road: upTo(r, 1, roads), From: from / 2, To: from/2 + r.IntN(c.chains+1), Crew: upTo(r, 1, crews),
			Places: r.IntN(c.places + 1), Rain: r.IntN(5) == 0, Frost: r.IntN(5) == 0,
		})
	}
	var jobs []api.Job
	for i := range r.IntN(c.jobs + 1) {
		first := upTo(r, 0, c.days)
		j := api.Job{
			Number: (i*7)%61 + 1, Road: upTo(r, 1, roads), Chain: upTo(r, 0, c.chains), First: first, Last: first + r.IntN(c.days+1),
			Crew: upTo(r, 1, crews), Dry: r.IntN(4) == 0, Warm: r.IntN(4) == 0,
		}
		if len(nights) > 0 && r.IntN(10) > 0 {
			n := nights[r.IntN(len(nights))]
			j.Road, j.Crew, j.Chain = n.Road, n.Crew, upTo(r, n.From, n.To)
			j.First, j.Last = min(j.First, n.Day), max(j.Last, n.Day)
			j.Dry, j.Warm = j.Dry && !n.Rain, j.Warm && !n.Frost
		}
		jobs = append(jobs, j)
	}
	return jobs, nights
}

// few are jobs and nights of which all plans can be tried out.
func few() crowd { return crowd{jobs: 5, nights: 4, days: 4, chains: 6, places: 2} }

// many are jobs and nights up to the limits, for few or many of which there are places.
func many(r *rand.Rand) crowd {
	return crowd{jobs: 60, nights: upTo(r, 5, 60), days: 12, chains: 12, places: upTo(r, 1, 4)}
}
