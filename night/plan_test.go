package night_test

import (
	"math/rand/v2"
	"slices"
	"testing"

	"blazon/api"
	"blazon/night"
)

// P8.2: Right and Done, with the chapter's examples.
func TestRight(t *testing.T) {
	jobs, nights := good()
	two := []api.Night{shift(12, 0, 1000, 2), nights[1]}
	for _, c := range []struct {
		nights []api.Night
		plan   []int
		right  bool
		done   int
	}{
		{nights, []int{0, 1}, true, 2}, {nights, []int{-1, -1}, true, 0}, {nights, []int{-1, 0}, true, 1}, {nights, []int{0, -1}, true, 1},
		{nights, []int{-1, 1}, true, 1}, {nights, []int{0, 0}, false, 0}, {nights, []int{1, 0}, false, 0}, {nights, []int{1, -1}, false, 0},
		{two, []int{0, 0}, true, 2}, {two, []int{1, 1}, false, 0}, {nil, []int{-1, -1}, true, 0},
		{[]api.Night{shift(12, 0, 1000, 0)}, []int{0, -1}, false, 0}, {[]api.Night{shift(9, 0, 1000, 9)}, []int{-1, 0}, false, 0},
	} {
		right, err := night.Right(jobs, c.nights, c.plan)
		if right != c.right || err != api.OK {
			t.Errorf("Right of %v: %v, error %d", c.plan, right, err)
		}
		done, err := night.Done(jobs, c.nights, c.plan)
		if done != c.done || (err == api.OK) != c.right {
			t.Errorf("Done of %v: %d, error %d", c.plan, done, err)
		}
	}
	if right, err := night.Right(nil, nights, nil); !right || err != api.OK {
		t.Errorf("Right of no jobs: %v, error %d", right, err)
	}
	if done, err := night.Done(nil, nights, nil); done != 0 || err != api.OK {
		t.Errorf("Done of no jobs: %d, error %d", done, err)
	}
}

// planned is what the three functions return that plan.
type planned struct {
	most     int
	plan     []int
	short    bool
	best     []int
	has      []int
	hasShort bool
}

// plan calls the functions that plan, and checks their errors.
func plan(t *testing.T, jobs []api.Job, nights []api.Night) planned {
	t.Helper()
	var p planned
	var errs [4]api.Errno
	p.most, errs[0] = night.Most(jobs, nights)
	p.plan, errs[1] = night.Plan(jobs, nights)
	p.best, errs[2] = night.Best(jobs, nights)
	p.has, p.hasShort, errs[3] = night.Shortage(jobs, nights)
	p.short = errs[1] == api.ErrShort
	if errs[0] != api.OK || errs[1] != api.OK && (!p.short || len(p.plan) > 0) || errs[2] != api.OK || errs[3] != api.OK ||
		!p.hasShort && len(p.has) > 0 {
		t.Fatalf("%v, %v: %v, errors %v", jobs, nights, p, errs)
	}
	return p
}

// P8.3: Most, Plan and Best, with the chapter's examples.
func TestPlan(t *testing.T) {
	jobs, nights := good()
	wide, far := shift(12, 0, 1000, 1), shift(12, 0, 500, 1)
	three := []api.Job{job(1, 600), job(2, 400), job(3, 900)}
	for name, c := range map[string]struct {
		jobs   []api.Job
		nights []api.Night
		best   []int
	}{
		"example 1":             {jobs, nights[:1], []int{0, -1}},
		"example 2":             {jobs, nights, []int{0, 1}},
		"the other way round":   {[]api.Job{jobs[1], jobs[0]}, nights, []int{1, 0}},
		"the first ones":        {jobs, []api.Night{wide, wide, wide}, []int{0, 1}},
		"two places":            {jobs, []api.Night{shift(12, 0, 1000, 2), wide}, []int{0, 0}},
		"no places":             {jobs, []api.Night{shift(12, 0, 1000, 0), wide, wide}, []int{1, 2}},
		"no nights":             {jobs, nil, []int{-1, -1}},
		"no jobs":               {nil, nights, nil},
		"nothing":               {nil, nil, nil},
		"no night that fits":    {jobs, []api.Night{shift(9, 0, 1000, 5)}, []int{-1, -1}},
		"only the last one":     {[]api.Job{{Number: 9, Road: 7, Crew: 1}, jobs[0]}, nights, []int{-1, 0}},
		"one moves another":     {three, []api.Night{wide, far, shift(13, 650, 1000, 1)}, []int{0, 1, 2}},
		"one gives way":         {three, []api.Night{far, shift(12, 550, 650, 1), wide}, []int{1, 0, 2}},
		"the second goes first": {three, []api.Night{wide, shift(13, 550, 700, 1)}, []int{1, 0, -1}},
		"along a chain":         {[]api.Job{job(1, 100), job(2, 200), job(3, 300)}, []api.Night{shift(11, 50, 100, 1), shift(11, 100, 200, 1), shift(11, 200, 300, 1)}, []int{0, 1, 2}},
	} {
		p := plan(t, c.jobs, c.nights)
		done := referenceDone(c.best)
		if p.most != done || !slices.Equal(p.best, c.best) || p.short != (done < len(c.jobs)) || !p.short && !slices.Equal(p.plan, c.best) {
			t.Errorf("%s: %v", name, p)
		}
	}
}

// P8.3: a job takes the first night that it can have, also where another one then has none and a third one has one instead.
func TestBestGivesUp(t *testing.T) {
	jobs := []api.Job{job(1, 500), job(2, 100), job(3, 900)}
	nights := []api.Night{shift(12, 0, 500, 1), shift(12, 500, 1000, 1)}
	if p := plan(t, jobs, nights); p.most != 2 || !slices.Equal(p.best, []int{0, -1, 1}) || !p.short {
		t.Errorf("%v", p)
	}
	jobs[0], jobs[2] = jobs[2], jobs[0]
	if p := plan(t, jobs, nights); p.most != 2 || !slices.Equal(p.best, []int{1, 0, -1}) || !p.short {
		t.Errorf("of the other order: %v", p)
	}
}

// P8.3, P8.8, P8.11: few jobs are planned as trying out all plans does.
func TestFewPlans(t *testing.T) {
	r := rand.New(rand.NewPCG(8, 3))
	short, given := 0, 0
	for range 6000 {
		jobs, nights := someJobs(r, few())
		best := referenceBest(jobs, nights)
		most := referenceDone(best)
		p := plan(t, jobs, nights)
		if p.most != most || !slices.Equal(p.best, best) || p.short != (most < len(jobs)) || !p.short && !slices.Equal(p.plan, best) {
			t.Fatalf("%v, %v: %v, not %v", jobs, nights, p, best)
		}
		if p.short {
			short++
		}
		if most > 0 && p.short && slices.Index(best, -1) < len(best)-1 {
			given++
		}
	}
	if short < 1000 || short > 5500 || given < 500 {
		t.Errorf("%d are short, %d give up others than the last", short, given)
	}
}

// P8.2: Right and Done are as the second way says, for all plans of few jobs.
func TestFewRight(t *testing.T) {
	r := rand.New(rand.NewPCG(8, 4))
	for range 60 {
		jobs, nights := someJobs(r, few())
		everyPlan(len(jobs), len(nights), func(plan []int) {
			right, err := night.Right(jobs, nights, plan)
			if right != referenceRight(jobs, nights, plan) || err != api.OK {
				t.Fatalf("Right of %v, %v, %v: %v, error %d", jobs, nights, plan, right, err)
			}
			done, err := night.Done(jobs, nights, plan)
			if right && (done != referenceDone(plan) || err != api.OK) || !right && (done != 0 || err != api.ErrPlan) {
				t.Fatalf("Done of %v, %v, %v: %d, error %d", jobs, nights, plan, done, err)
			}
		})
	}
}

// P8.3, P8.11: many jobs have as many done as a flow finds, by plans that are right.
func TestManyPlans(t *testing.T) {
	r := rand.New(rand.NewPCG(8, 5))
	short := 0
	for range 300 {
		jobs, nights := someJobs(r, many(r))
		p := plan(t, jobs, nights)
		if p.most != referenceFlow(jobs, nights, nil) || !referenceRight(jobs, nights, p.best) || referenceDone(p.best) != p.most {
			t.Fatalf("%v, %v: %v", jobs, nights, p)
		}
		if p.short != (p.most < len(jobs)) || !p.short && !slices.Equal(p.plan, p.best) {
			t.Fatalf("%v, %v: %v", jobs, nights, p)
		}
		if p.short {
			short++
		}
	}
	if short < 50 || short > 280 {
		t.Errorf("%d are short", short)
	}
}

// P8.3: in Best no job of many can have a lesser night with those in front of it as they are.
func TestManyBest(t *testing.T) {
	r := rand.New(rand.NewPCG(8, 6))
	for range 40 {
		jobs, nights := someJobs(r, crowd{jobs: 30, nights: 16, days: 8, chains: 12, places: 3})
		p := plan(t, jobs, nights)
		for k, n := range p.best {
			if n < 0 {
				n = len(nights)
			}
			given := slices.Clone(p.best[:k+1])
			for lesser := range n {
				given[k] = lesser
				if referenceFits(jobs[k], nights[lesser]) && referenceFlow(jobs, nights, given) == p.most {
					t.Fatalf("%v, %v: %v, but the job %d can have the night %d", jobs, nights, p.best, k, lesser)
				}
			}
		}
	}
}

// R1: as many jobs as there may be, where each one that finds no night has tried all of them.
func TestFullPlans(t *testing.T) {
	var jobs []api.Job
	var nights []api.Night
	for i := range 60 {
		jobs = append(jobs, job(60-i, 100))
		nights = append(nights, shift(10+i%11, 0, 1000, i%2))
	}
	p := plan(t, jobs, nights)
	var want []int
	for i := range 60 {
		want = append(want, 2*i+1)
		if i >= 30 {
			want[i] = -1
		}
	}
	if p.most != 30 || !p.short || !slices.Equal(p.best, want) || len(p.has) != 31 {
		t.Errorf("%v", p)
	}
	for i := range nights {
		nights[i].Places = 1
	}
	for i := range want {
		want[i] = i
	}
	if p := plan(t, jobs, nights); p.most != 60 || p.short || !slices.Equal(p.plan, want) || !slices.Equal(p.best, want) {
		t.Errorf("with one place each: %v", p)
	}
}

// P8.10: one more night, place or day never makes Most less, and one more job makes it greater by at most 1.
func TestMore(t *testing.T) {
	r := rand.New(rand.NewPCG(8, 10))
	for range 1500 {
		c := crowd{jobs: 20, nights: 12, days: 6, chains: 12, places: 2}
		jobs, nights := someJobs(r, c)
		most := plan(t, jobs, nights).most
		_, further := someJobs(r, c)
		if with := plan(t, jobs, append(slices.Clone(nights), further...)).most; with < most {
			t.Fatalf("with more nights %d, not %d", with, most)
		}
		if len(nights) > 0 {
			n := slices.Clone(nights)
			n[r.IntN(len(n))].Places++
			if with := plan(t, jobs, n).most; with < most || with > most+1 {
				t.Fatalf("with a place more %d, not %d", with, most)
			}
		}
		if len(jobs) > 0 {
			j := slices.Clone(jobs)
			j[r.IntN(len(j))].Last++
			if with := plan(t, j, nights).most; with < most || with > most+1 {
				t.Fatalf("with a day more %d, not %d", with, most)
			}
			if without := plan(t, jobs[1:], nights).most; without > most || without < most-1 {
				t.Fatalf("without a job %d, not %d", without, most)
			}
		}
	}
}
