package night_test

import (
	"math"
	"math/rand/v2"
	"slices"
	"testing"

	"blazon/api"
	"blazon/night"
)

// P8.5: Tour, in the order of chainages, of equal ones in that of the jobs.
func TestTour(t *testing.T) {
	jobs := []api.Job{job(9, 700), job(8, 300), job(7, 700), job(6, 300), job(5, 900), job(4, 100)}
	nights := []api.Night{shift(12, 0, 1000, 100), shift(15, 0, 1000, 1), shift(16, 0, 1000, 0)}
	for _, c := range []struct {
		plan, tour []int
		night, far int
	}{
		{[]int{0, 0, 0, 0, 0, 0}, []int{5, 1, 3, 0, 2, 4}, 0, 800},
		{[]int{0, 0, 0, 0, 0, 0}, nil, 1, 0},
		{[]int{0, 0, 0, 0, -1, 1}, []int{1, 3, 0, 2}, 0, 400},
		{[]int{0, 0, 0, 0, -1, 1}, []int{5}, 1, 0},
		{[]int{-1, -1, -1, -1, -1, -1}, nil, 0, 0},
		{[]int{-1, -1, -1, -1, -1, -1}, nil, 2, 0},
		{[]int{0, -1, 0, -1, -1, -1}, []int{0, 2}, 0, 0},
		{[]int{0, -1, -1, -1, -1, 0}, []int{5, 0}, 0, 600},
	} {
		tour, far, err := night.Tour(jobs, nights, c.plan, c.night)
		if !slices.Equal(tour, c.tour) || far != c.far || err != api.OK {
			t.Errorf("Tour of %v, %d: %v, %d, error %d", c.plan, c.night, tour, far, err)
		}
	}
	ends := []api.Job{job(1, 10000000), job(2, 0)}
	if tour, far, err := night.Tour(ends, []api.Night{shift(12, 0, 10000000, 2)}, []int{0, 0}, 0); !slices.Equal(tour, []int{1, 0}) || far != 10000000 || err != api.OK {
		t.Errorf("Tour from end to end: %v, %d, error %d", tour, far, err)
	}
}

// P8.1, P8.5: a night that is no index of one is ErrArg, but a plan that is not right is ErrPlan first.
func TestTourErrors(t *testing.T) {
	jobs, nights := good()
	for _, n := range []int{-1, 2, math.MinInt, math.MaxInt} {
		if tour, far, err := night.Tour(jobs, nights, []int{0, 1}, n); len(tour) > 0 || far != 0 || err != api.ErrArg {
			t.Errorf("Tour of the night %d: %v, %d, error %d", n, tour, far, err)
		}
		if tour, far, err := night.Tour(jobs, nights, []int{0, 0}, n); len(tour) > 0 || far != 0 || err != api.ErrPlan {
			t.Errorf("Tour of the night %d of a wrong plan: %v, %d, error %d", n, tour, far, err)
		}
	}
	if tour, far, err := night.Tour(nil, nil, nil, 0); len(tour) > 0 || far != 0 || err != api.ErrArg {
		t.Errorf("Tour without nights: %v, %d, error %d", tour, far, err)
	}
}

// P8.5: Late, the weight of what is not done.
func TestLate(t *testing.T) {
	jobs, nights := good()
	for _, c := range []struct {
		plan, weight []int
		late         int
	}{
		{[]int{0, 1}, []int{5, 7}, 0}, {[]int{-1, 1}, []int{5, 7}, 5}, {[]int{0, -1}, []int{5, 7}, 7}, {[]int{-1, -1}, []int{5, 7}, 12},
		{[]int{-1, -1}, []int{0, 1000000}, 1000000}, {[]int{-1, -1}, []int{0, 0}, 0},
	} {
		if late, err := night.Late(jobs, nights, c.plan, c.weight); late != c.late || err != api.OK {
			t.Errorf("Late of %v, %v: %d, error %d", c.plan, c.weight, late, err)
		}
	}
	full, dark := greatest()
	if late, err := night.Late(full, dark, slices.Repeat([]int{-1}, 60), slices.Repeat([]int{1000000}, 60)); late != 60000000 || err != api.OK {
		t.Errorf("Late of the greatest: %d, error %d", late, err)
	}
	if late, err := night.Late(nil, nights, nil, nil); late != 0 || err != api.OK {
		t.Errorf("Late of no jobs: %d, error %d", late, err)
	}
}

// P8.1, P8.5: weights that are not as described are ErrArg, but a plan that is not right is ErrPlan first.
func TestLateErrors(t *testing.T) {
	jobs, nights := good()
	for _, weight := range [][]int{nil, {}, {1}, {1, 2, 3}, {-1, 1}, {1, -1}, {1000001, 1}, {1, 1000001}, {math.MinInt, 1}, {1, math.MaxInt}} {
		for _, plan := range [][]int{{0, 1}, {-1, -1}, {0, -1}} {
			if late, err := night.Late(jobs, nights, plan, weight); late != 0 || err != api.ErrArg {
				t.Errorf("Late of the weights %v: %d, error %d", weight, late, err)
			}
		}
		if late, err := night.Late(jobs, nights, []int{0, 0}, weight); late != 0 || err != api.ErrPlan {
			t.Errorf("Late of the weights %v of a wrong plan: %d, error %d", weight, late, err)
		}
	}
}

// P8.5, P8.11: the jobs of all tours are those that are done, each once; Late weighs the others.
func TestTours(t *testing.T) {
	r := rand.New(rand.NewPCG(8, 9))
	for range 300 {
		jobs, nights := someJobs(r, many(r))
		best := plan(t, jobs, nights).best
		weight := make([]int, len(jobs))
		late := 0
		for k := range weight {
			weight[k] = r.IntN(1000001)
			if best[k] < 0 {
				late += weight[k]
			}
		}
		if got, err := night.Late(jobs, nights, best, weight); got != late || err != api.OK {
			t.Fatalf("Late of %v, %v: %d, error %d", best, weight, got, err)
		}
		met := map[int]int{}
		for n := range nights {
			tour, far, err := night.Tour(jobs, nights, best, n)
			for i, k := range tour {
				if met[k]++; best[k] != n || met[k] > 1 {
					t.Fatalf("the tour %v of %d is not of %v", tour, n, best)
				}
				if i > 0 && (jobs[tour[i-1]].Chain > jobs[k].Chain || jobs[tour[i-1]].Chain == jobs[k].Chain && tour[i-1] > k) {
					t.Fatalf("the tour %v is not in order", tour)
				}
			}
			if len(tour) > 0 && far != jobs[tour[len(tour)-1]].Chain-jobs[tour[0]].Chain || len(tour) == 0 && far != 0 || err != api.OK {
				t.Fatalf("the tour %v has %d to drive, error %d", tour, far, err)
			}
		}
		if len(met) != referenceDone(best) {
			t.Fatalf("%d of %v are on tours", len(met), best)
		}
	}
}
