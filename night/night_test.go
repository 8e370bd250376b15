package night_test

import (
	"math"
	"math/rand/v2"
	"reflect"
	"slices"
	"testing"

	"blazon/api"
	"blazon/night"
)

// job returns a job as in the chapter's examples.
func job(number, chain int) api.Job {
	return api.Job{Number: number, Road: 5, Chain: chain, First: 10, Last: 20, Crew: 1}
}

// shift returns a night as in the chapter's examples.
func shift(day, from, to, places int) api.Night {
	return api.Night{Day: day, Road: 5, From: from, To: to, Crew: 1, Places: places}
}

// good are the jobs and nights of the chapter's second example.
func good() ([]api.Job, []api.Night) {
	return []api.Job{job(1, 100), job(2, 900)}, []api.Night{shift(12, 0, 1000, 1), shift(15, 500, 1000, 1)}
}

// greatest are as many jobs and nights as there may be, with all numbers at their upper limits.
func greatest() ([]api.Job, []api.Night) {
	var jobs []api.Job
	var nights []api.Night
	for i := range 60 {
		jobs = append(jobs, api.Job{Number: 1000000000 - i, Road: 1000000, Chain: 10000000, First: 100000, Last: 100000, Crew: 9, Dry: true, Warm: true})
		nights = append(nights, api.Night{Day: 100000, Road: 1000000, From: 10000000, To: 10000000, Crew: 9, Places: 100})
	}
	return jobs, nights
}

// least are a job and a night with all numbers at their lower limits.
func least() ([]api.Job, []api.Night) {
	return []api.Job{{Number: 1, Road: 1, Crew: 1}}, []api.Night{{Road: 1, Crew: 1}}
}

// outside are numbers just beyond limits, and far from them.
func outside(least, most int) []int {
	return []int{least - 1, most + 1, math.MinInt, math.MaxInt}
}

// wrongJobs are jobs with one field that is not valid.
func wrongJobs() []api.Job {
	var wrong []api.Job
	set := func(least, most int, field func(j *api.Job) *int) {
		for _, v := range outside(least, most) {
			j := job(1, 100)
			*field(&j) = v
			wrong = append(wrong, j)
		}
	}
	set(1, 1000000000, func(j *api.Job) *int { return &j.Number })
	set(1, 1000000, func(j *api.Job) *int { return &j.Road })
	set(0, 10000000, func(j *api.Job) *int { return &j.Chain })
	set(0, 20, func(j *api.Job) *int { return &j.First })
	set(10, 100000, func(j *api.Job) *int { return &j.Last })
	set(1, 9, func(j *api.Job) *int { return &j.Crew })
	early, late := job(1, 100), job(1, 100)
	early.First, early.Last = -1, -1
	late.First, late.Last = 100001, 100001
	return append(wrong, early, late, api.Job{})
}

// wrongNights are nights with one field that is not valid.
func wrongNights() []api.Night {
	var wrong []api.Night
	set := func(least, most int, field func(n *api.Night) *int) {
		for _, v := range outside(least, most) {
			n := shift(12, 100, 1000, 1)
			*field(&n) = v
			wrong = append(wrong, n)
		}
	}
	set(0, 100000, func(n *api.Night) *int { return &n.Day })
	set(1, 1000000, func(n *api.Night) *int { return &n.Road })
	set(0, 1000, func(n *api.Night) *int { return &n.From })
	set(100, 10000000, func(n *api.Night) *int { return &n.To })
	set(1, 9, func(n *api.Night) *int { return &n.Crew })
	set(0, 100, func(n *api.Night) *int { return &n.Places })
	return append(wrong, shift(12, -1, -1, 1), shift(12, 10000001, 10000001, 1), api.Night{})
}

// P8.2: Valid, at the limits and just beyond them.
func TestValid(t *testing.T) {
	for _, lists := range []func() ([]api.Job, []api.Night){good, greatest, least} {
		jobs, nights := lists()
		if !night.Valid(jobs, nights) || !night.Valid(nil, nights) || !night.Valid(jobs, nil) || !night.Valid([]api.Job{}, []api.Night{}) {
			t.Errorf("not valid: %v, %v", jobs, nights)
		}
	}
	jobs, nights := good()
	for _, j := range wrongJobs() {
		j2 := j
		if j.Number == 1 {
			j2.Number = 7
		}
		if night.Valid([]api.Job{j}, nights) || night.Valid([]api.Job{jobs[1], j}, nil) || night.Valid([]api.Job{j2, jobs[0], jobs[1]}, nil) {
			t.Errorf("valid with the job %v", j)
		}
	}
	for _, n := range wrongNights() {
		if night.Valid(jobs, []api.Night{n}) || night.Valid(nil, []api.Night{nights[0], n}) || night.Valid(nil, []api.Night{n, nights[0]}) {
			t.Errorf("valid with the night %v", n)
		}
	}
	if night.Valid([]api.Job{jobs[0], jobs[1], jobs[0]}, nights) || night.Valid([]api.Job{job(3, 1), job(3, 2)}, nights) {
		t.Error("valid with a number twice")
	}
	if !night.Valid(jobs, []api.Night{nights[0], nights[0]}) {
		t.Error("a night twice is not valid")
	}
	all, nightsAll := greatest()
	if night.Valid(append(all, job(1, 1)), nil) || night.Valid(nil, append(nightsAll, shift(1, 1, 1, 1))) {
		t.Error("valid with 61")
	}
}

// P8.2: Fits, at the limits of each of its conditions.
func TestFits(t *testing.T) {
	j, n := job(1, 500), shift(15, 400, 600, 0)
	for name, c := range map[string]struct {
		change func()
		fits   bool
	}{
		"as it is":               {func() {}, true},
		"another road":           {func() { n.Road = 6 }, false},
		"another crew":           {func() { n.Crew = 2 }, false},
		"on the first day":       {func() { n.Day = 10 }, true},
		"before the first day":   {func() { n.Day = 9 }, false},
		"on the last day":        {func() { n.Day = 20 }, true},
		"behind the last day":    {func() { n.Day = 21 }, false},
		"where it begins":        {func() { n.From = 500 }, true},
		"before it begins":       {func() { n.From = 501 }, false},
		"where it ends":          {func() { n.To = 500 }, true},
		"behind its end":         {func() { n.To = 499 }, false},
		"in one place":           {func() { n.From, n.To = 500, 500 }, true},
		"dry in rain":            {func() { j.Dry, n.Rain = true, true }, false},
		"dry in frost":           {func() { j.Dry, n.Frost = true, true }, true},
		"warm in frost":          {func() { j.Warm, n.Frost = true, true }, false},
		"warm in rain":           {func() { j.Warm, n.Rain = true, true }, true},
		"dry and warm":           {func() { j.Dry, j.Warm = true, true }, true},
		"in rain and frost":      {func() { n.Rain, n.Frost = true, true }, true},
		"on its one day":         {func() { j.First, j.Last = 15, 15 }, true},
		"all, in rain and frost": {func() { j.Dry, j.Warm, n.Rain, n.Frost = true, true, true, true }, false},
	} {
		j, n = job(1, 500), shift(15, 400, 600, 0)
		c.change()
		if fits, err := night.Fits(j, n); fits != c.fits || err != api.OK {
			t.Errorf("%s: %v, error %d", name, fits, err)
		}
	}
}

// P8.1, P8.2: Fits of what is not valid is ErrJob, then ErrNight.
func TestFitsErrors(t *testing.T) {
	for _, j := range wrongJobs() {
		for _, n := range []api.Night{shift(12, 0, 1000, 1), {}} {
			if fits, err := night.Fits(j, n); fits || err != api.ErrJob {
				t.Errorf("Fits of %v, %v: %v, error %d", j, n, fits, err)
			}
		}
	}
	for _, n := range wrongNights() {
		if fits, err := night.Fits(job(1, 100), n); fits || err != api.ErrNight {
			t.Errorf("Fits of %v: %v, error %d", n, fits, err)
		}
	}
}

// P8.2: Choices, with the chapter's examples.
func TestChoices(t *testing.T) {
	jobs, nights := good()
	for _, c := range []struct {
		nights []api.Night
		want   [][]int
	}{
		{nights, [][]int{{0}, {0, 1}}},
		{nights[:1], [][]int{{0}, {0}}},
		{[]api.Night{nights[1], nights[1], nights[0]}, [][]int{{2}, {0, 1, 2}}},
		{nil, [][]int{nil, nil}},
	} {
		got, err := night.Choices(jobs, c.nights)
		if !slices.EqualFunc(got, c.want, slices.Equal) || err != api.OK {
			t.Errorf("Choices among %v: %v, error %d", c.nights, got, err)
		}
	}
	if got, err := night.Choices(nil, nights); len(got) != 0 || err != api.OK {
		t.Errorf("Choices of no jobs: %v, error %d", got, err)
	}
	full, nightsFull := greatest()
	got, err := night.Choices(full, nightsFull)
	if len(got) != 60 || len(got[59]) != 60 || got[59][59] != 59 || err != api.OK {
		t.Errorf("Choices of as many as there may be: %v, error %d", got, err)
	}
}

// P8.2: Fits and Choices are as the second way says.
func TestSomeChoices(t *testing.T) {
	r := rand.New(rand.NewPCG(8, 2))
	fit := 0
	for range 300 {
		jobs, nights := someJobs(r, many(r))
		choices, err := night.Choices(jobs, nights)
		if len(choices) != len(jobs) || err != api.OK {
			t.Fatalf("Choices of %v among %v: %v, error %d", jobs, nights, choices, err)
		}
		for k, j := range jobs {
			var want []int
			for i, n := range nights {
				fits, err := night.Fits(j, n)
				if fits != referenceFits(j, n) || err != api.OK {
					t.Fatalf("Fits of %v, %v: %v, error %d", j, n, fits, err)
				}
				if fits {
					want = append(want, i)
				}
			}
			if !slices.Equal(choices[k], want) {
				t.Fatalf("Choices of %v among %v: %v", j, nights, choices[k])
			}
			fit += len(want)
		}
	}
	if fit < 1000 {
		t.Errorf("only %d fit", fit)
	}
}

// asked is what functions are called with, beside jobs and nights.
type asked struct {
	plan, weight, list []int
	night              int
}

// answer is what a function returns.
type answer struct {
	value any
	err   api.Errno
}

// answers calls all functions that take lists; those with a plan stand in the second result.
func answers(jobs []api.Job, nights []api.Night, a asked) (map[string]answer, map[string]answer) {
	plain, planned := map[string]answer{}, map[string]answer{}
	set := func(m map[string]answer, name string, err api.Errno, values ...any) {
		text := []any{}
		for _, v := range values {
			if list, ok := v.([]int); ok && len(list) == 0 {
				v = nil
			}
			if lists, ok := v.([][]int); ok && len(lists) == 0 {
				v = nil
			}
			text = append(text, v)
		}
		m[name] = answer{text, err}
	}
	choices, err := night.Choices(jobs, nights)
	set(plain, "Choices", err, choices)
	most, err := night.Most(jobs, nights)
	set(plain, "Most", err, most)
	plan, err := night.Plan(jobs, nights)
	set(plain, "Plan", err, plan)
	best, err := night.Best(jobs, nights)
	set(plain, "Best", err, best)
	short, ok, err := night.Shortage(jobs, nights)
	set(plain, "Shortage", err, short, ok)
	is, err := night.IsShortage(jobs, nights, a.list)
	set(plain, "IsShortage", err, is)
	right, err := night.Right(jobs, nights, a.plan)
	set(planned, "Right", err, right)
	done, err := night.Done(jobs, nights, a.plan)
	set(planned, "Done", err, done)
	tour, far, err := night.Tour(jobs, nights, a.plan, a.night)
	set(planned, "Tour", err, tour, far)
	late, err := night.Late(jobs, nights, a.plan, a.weight)
	set(planned, "Late", err, late)
	return plain, planned
}

// zero reports whether an answer has an error and no value.
func zero(a answer, err api.Errno) bool {
	for _, v := range a.value.([]any) {
		if v != nil && v != 0 && v != false {
			return false
		}
	}
	return a.err == err
}

// P8.1: ErrJob and ErrNight come first, in this order, also beside wrong plans and arguments.
func TestListErrors(t *testing.T) {
	jobs, nights := good()
	right := asked{plan: []int{0, 1}, weight: []int{1, 2}, list: []int{0, 1}, night: 0}
	wrong := asked{plan: []int{7}, weight: []int{-1}, list: []int{-1}, night: -1}
	check := func(jobs []api.Job, nights []api.Night, want api.Errno) {
		for _, a := range []asked{right, wrong} {
			plain, planned := answers(jobs, nights, a)
			for _, m := range []map[string]answer{plain, planned} {
				for name, got := range m {
					if !zero(got, want) {
						t.Errorf("%s of %v, %v: %v", name, jobs, nights, got)
					}
				}
			}
		}
	}
	for _, j := range append(wrongJobs(), jobs[0]) {
		check([]api.Job{jobs[0], j}, nights, api.ErrJob)
		check([]api.Job{jobs[0], j}, []api.Night{{}}, api.ErrJob)
	}
	for _, n := range wrongNights() {
		check(jobs, []api.Night{nights[0], n}, api.ErrNight)
	}
	all, nightsAll := greatest()
	check(append(all, job(1, 1)), append(nightsAll, nights[0]), api.ErrJob)
	check(jobs, append(nightsAll, nights[0]), api.ErrNight)
}

// P8.1: plans that are not formed are ErrPlan for Right too; those that are not right for the others.
func TestPlanErrors(t *testing.T) {
	jobs, nights := good()
	wrong := asked{weight: []int{-1}, night: -1}
	for _, plan := range [][]int{
		nil, {}, {0}, {0, 1, -1}, {0, 2}, {2, 0}, {-2, 0}, {0, -2}, {math.MinInt, 0}, {0, math.MaxInt}, slices.Repeat([]int{-1}, 60),
	} {
		wrong.plan = plan
		_, planned := answers(jobs, nights, wrong)
		for name, got := range planned {
			if !zero(got, api.ErrPlan) {
				t.Errorf("%s of the plan %v: %v", name, plan, got)
			}
		}
	}
	for _, plan := range [][]int{{0, 0}, {1, 0}, {1, 1}, {1, -1}} {
		wrong.plan = plan
		_, planned := answers(jobs, nights, wrong)
		for name, got := range planned {
			if name == "Right" && !zero(got, api.OK) || name != "Right" && !zero(got, api.ErrPlan) {
				t.Errorf("%s of the plan %v: %v", name, plan, got)
			}
		}
	}
	if ok, err := night.Right(jobs, nil, []int{0, -1}); ok || err != api.ErrPlan {
		t.Errorf("Right without nights: %v, error %d", ok, err)
	}
	if ok, err := night.Right(nil, nights, []int{0}); ok || err != api.ErrPlan {
		t.Errorf("Right without jobs: %v, error %d", ok, err)
	}
}

// P8.1, R1: the greatest and the least values have no error.
func TestGreatest(t *testing.T) {
	jobs, nights := greatest()
	a := asked{plan: slices.Repeat([]int{59}, 60), weight: slices.Repeat([]int{1000000}, 60), list: []int{59}, night: 59}
	plain, planned := answers(jobs, nights, a)
	for _, m := range []map[string]answer{plain, planned} {
		for name, got := range m {
			if got.err != api.OK {
				t.Errorf("%s of the greatest: %v", name, got)
			}
		}
	}
	if got := plain["Plan"]; !reflect.DeepEqual(got.value, []any{make([]int, 60)}) {
		t.Errorf("the plan is %v", got)
	}
	one, dark := least()
	plain, planned = answers(one, dark, asked{plan: []int{-1}, weight: []int{0}, list: []int{0}})
	for name, got := range plain {
		if name != "Plan" && got.err != api.OK {
			t.Errorf("%s of the least: %v", name, got)
		}
	}
	for name, got := range planned {
		if got.err != api.OK {
			t.Errorf("%s of the least: %v", name, got)
		}
	}
	if !reflect.DeepEqual(plain["Plan"], answer{[]any{nil}, api.ErrShort}) || !reflect.DeepEqual(plain["Shortage"], answer{[]any{[]int{0}, true}, 0}) {
		t.Errorf("a night without places: %v, %v", plain["Plan"], plain["Shortage"])
	}
}

// R4: lists are read up to their length alone, and not changed; empty and nil lists are the same.
func TestListsStay(t *testing.T) {
	jobs, nights := good()
	j := append(slices.Clone(jobs), api.Job{Number: -7})[:2]
	n := append(slices.Clone(nights), api.Night{Day: -7})[:2]
	a := asked{plan: []int{0, 1}, weight: []int{5, 6}, list: []int{0, 1}, night: 1}
	long := asked{plan: append(a.plan, -7)[:2], weight: append(a.weight, -7)[:2], list: append(a.list, -7)[:2], night: 1}
	for range 3 {
		plain, planned := answers(j, n, long)
		wantPlain, wantPlanned := answers(jobs, nights, a)
		if !reflect.DeepEqual(plain, wantPlain) || !reflect.DeepEqual(planned, wantPlanned) {
			t.Errorf("with something behind the lists: %v, %v", plain, planned)
		}
	}
	if !slices.Equal(j[:3], append(slices.Clone(jobs), api.Job{Number: -7})) || !slices.Equal(n[:3], append(slices.Clone(nights), api.Night{Day: -7})) {
		t.Errorf("the lists became %v, %v", j[:3], n[:3])
	}
	if !slices.Equal(long.plan[:3], []int{0, 1, -7}) || !slices.Equal(long.weight[:3], []int{5, 6, -7}) || !slices.Equal(long.list[:3], []int{0, 1, -7}) {
		t.Errorf("the arguments became %v", long)
	}
	plain, planned := answers(nil, nights, asked{})
	plainEmpty, plannedEmpty := answers([]api.Job{}, nights, asked{plan: []int{}, weight: []int{}, list: []int{}})
	if !reflect.DeepEqual(plain, plainEmpty) || !reflect.DeepEqual(planned, plannedEmpty) {
		t.Errorf("of empty lists: %v, %v", plainEmpty, plannedEmpty)
	}
}

// R4: results are new memory, and no two lists of one share it.
func TestResultsAreNew(t *testing.T) {
	jobs, nights := good()
	for range 3 {
		choices, _ := night.Choices(jobs, nights)
		plan, _ := night.Plan(jobs, nights)
		best, _ := night.Best(jobs, nights)
		short, _, _ := night.Shortage(jobs, nights[:1])
		mine := []int{0, 1}
		tour, _, _ := night.Tour(jobs, nights, mine, 0)
		if !slices.EqualFunc(choices, [][]int{{0}, {0, 1}}, slices.Equal) || !slices.Equal(plan, mine) || !slices.Equal(best, mine) ||
			!slices.Equal(short, mine) || !slices.Equal(tour, []int{0}) {
			t.Fatalf("%v, %v, %v, %v, %v", choices, plan, best, short, tour)
		}
		_ = append(choices[0], -7)
		for _, list := range [][]int{choices[0], plan, best, short, tour} {
			for i := range list {
				list[i] = -7
			}
		}
		if !slices.Equal(choices[1], []int{0, 1}) || !slices.Equal(mine, []int{0, 1}) {
			t.Errorf("a change of results changed %v, %v", choices[1], mine)
		}
	}
}
