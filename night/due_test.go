package night_test

import (
	"math"
	"math/rand/v2"
	"testing"

	"blazon/api"
	"blazon/light"
	"blazon/night"
)

// face is what DueJob is asked for.
type face struct {
	number, road, chain, crew int
	keep, side                int
	measures                  []api.Measure
	least, lead               int
}

// goodFace falls due on the day 730.
func goodFace() face {
	return face{number: 3, road: 5, chain: 700, crew: 2, keep: 900, side: 1, measures: []api.Measure{{Day: 0, R: 250}}, least: 210, lead: 30}
}

func (f face) due() (api.Job, bool, api.Errno) {
	keep := [4]int{1000, 1000, 1000, 1000}
	if f.side >= 0 && f.side < 4 {
		keep[f.side] = f.keep
	}
	return night.DueJob(f.number, f.road, f.chain, f.crew, api.Ageing{Keep: keep}, f.side, f.measures, f.least, f.lead)
}

// P8.6: DueJob, before the day on which the face falls due, but not before the last measure or the first day.
func TestDueJob(t *testing.T) {
	for name, c := range map[string]struct {
		change      func(f *face)
		ok          bool
		first, last int
	}{
		"as it is":                  {func(f *face) {}, true, 699, 729},
		"without lead":              {func(f *face) { f.lead = 0 }, true, 729, 729},
		"a lead of one day":         {func(f *face) { f.lead = 1 }, true, 728, 729},
		"a lead from the first day": {func(f *face) { f.lead = 729 }, true, 0, 729},
		"a lead of one more":        {func(f *face) { f.lead = 730 }, true, 0, 729},
		"the greatest lead":         {func(f *face) { f.lead = 100000 }, true, 0, 729},
		"measured later":            {func(f *face) { f.measures = []api.Measure{{Day: 100, R: 250}} }, true, 799, 829},
		"measured again":            {func(f *face) { f.measures = append(f.measures, api.Measure{Day: 600, R: 240}) }, true, 1299, 1329},
		"below it at once":          {func(f *face) { f.measures = []api.Measure{{Day: 100, R: 200}} }, true, 70, 100},
		"below it on the first day": {func(f *face) { f.measures = []api.Measure{{Day: 0, R: 209}} }, true, 0, 0},
		"below it on the last day":  {func(f *face) { f.measures = []api.Measure{{Day: 100000, R: 0}} }, true, 99970, 100000},
		"due on the last day":       {func(f *face) { f.measures = []api.Measure{{Day: 100000 - 730, R: 250}} }, true, 99969, 99999},
		"due behind the last day":   {func(f *face) { f.measures = []api.Measure{{Day: 100000 - 729, R: 250}} }, false, 0, 0},
		"never due":                 {func(f *face) { f.keep = 1000 }, false, 0, 0},
		"never below nothing":       {func(f *face) { f.least = 0 }, false, 0, 0},
		"below it though it keeps":  {func(f *face) { f.keep, f.least = 1000, 251 }, true, 0, 0},
	} {
		f := goodFace()
		c.change(&f)
		want := api.Job{Number: 3, Road: 5, Chain: 700, First: c.first, Last: c.last, Crew: 2, Dry: true}
		if !c.ok {
			want = api.Job{}
		}
		if j, ok, err := f.due(); j != want || ok != c.ok || err != api.OK {
			t.Errorf("%s: %v, %v, error %d", name, j, ok, err)
		}
	}
}

// P8.6: numbers at their limits are as given.
func TestDueJobLimits(t *testing.T) {
	for _, n := range [][4]int{{1, 1, 0, 1}, {1000000000, 1000000, 10000000, 9}} {
		f := goodFace()
		f.number, f.road, f.chain, f.crew = n[0], n[1], n[2], n[3]
		j, ok, err := f.due()
		if j != (api.Job{Number: n[0], Road: n[1], Chain: n[2], First: 699, Last: 729, Crew: n[3], Dry: true}) || !ok || err != api.OK {
			t.Errorf("%v: %v, %v, error %d", n, j, ok, err)
		}
		if !night.Valid([]api.Job{j}, nil) {
			t.Errorf("%v is not valid", j)
		}
	}
}

// P8.6: what is not as in a job, and a wrong lead, are ErrArg; so is what light.Due refuses.
func TestDueJobErrors(t *testing.T) {
	var wrong []face
	set := func(least, most int, field func(f *face) *int) {
		for _, v := range outside(least, most) {
			f := goodFace()
			*field(&f) = v
			wrong = append(wrong, f)
			never := goodFace()
			never.keep = 1000
			*field(&never) = v
			wrong = append(wrong, never)
		}
	}
	set(1, 1000000000, func(f *face) *int { return &f.number })
	set(1, 1000000, func(f *face) *int { return &f.road })
	set(0, 10000000, func(f *face) *int { return &f.chain })
	set(1, 9, func(f *face) *int { return &f.crew })
	set(0, 100000, func(f *face) *int { return &f.lead })
	set(0, 3, func(f *face) *int { return &f.side })
	set(0, 1000, func(f *face) *int { return &f.keep })
	set(0, 100000, func(f *face) *int { return &f.least })
	for _, m := range [][]api.Measure{nil, {}, {{Day: -1, R: 5}}, {{Day: 5, R: -1}}, {{Day: 5, R: 5}, {Day: 5, R: 5}}, {{Day: 100001, R: 5}}, {{Day: 5, R: math.MaxInt}}} {
		f := goodFace()
		f.measures = m
		wrong = append(wrong, f)
	}
	for _, f := range wrong {
		if f.keep == 1000 && f.side != 1 {
			continue
		}
		if j, ok, err := f.due(); j != (api.Job{}) || ok || err != api.ErrArg {
			t.Errorf("%v: %v, %v, error %d", f, j, ok, err)
		}
	}
}

// P8.6, DOC P4: the job lies before the day of light.Due, where the face is still good, and is valid.
func TestSomeDueJobs(t *testing.T) {
	r := rand.New(rand.NewPCG(8, 11))
	due := 0
	for range 3000 {
		var a api.Ageing
		for side := range a.Keep {
			a.Keep[side] = upTo(r, 800, 1000)
		}
		m := []api.Measure{{Day: r.IntN(50000), R: upTo(r, 100, 400)}}
		for range r.IntN(4) {
			m = append(m, api.Measure{Day: m[len(m)-1].Day + upTo(r, 1, 1500), R: upTo(r, 50, 400)})
		}
		side, least, lead := r.IntN(4), upTo(r, 30, 300), r.IntN(3000)
		j, ok, err := night.DueJob(7, 8, 9, 4, a, side, m, least, lead)
		day, want, e := light.Due(a, side, m, least)
		if ok != want || err != e || err != api.OK || !ok && j != (api.Job{}) {
			t.Fatalf("%v, %d, %v, %d, %d: %v, %v, error %d", a, side, m, least, lead, j, ok, err)
		}
		if !ok {
			continue
		}
		due++
		last := day - 1
		if day == m[len(m)-1].Day {
			last = day
		}
		first := last - lead
		if first < 0 {
			first = 0
		}
		if j != (api.Job{Number: 7, Road: 8, Chain: 9, First: first, Last: last, Crew: 4, Dry: true}) || !night.Valid([]api.Job{j}, nil) {
			t.Fatalf("%v, %d, %v, %d, %d: %v, due on %d", a, side, m, least, lead, j, day)
		}
	}
	if due < 1000 {
		t.Errorf("only %d fall due", due)
	}
}

// P8.7: Weekday, for all days, and those that are none.
func TestWeekday(t *testing.T) {
	for day := range 100001 {
		if w, err := night.Weekday(day); w != day%7 || err != api.OK {
			t.Fatalf("Weekday of %d: %d, error %d", day, w, err)
		}
	}
	for _, c := range [][2]int{{0, 0}, {6, 6}, {7, 0}, {8, 1}, {100000, 5}} {
		if w, err := night.Weekday(c[0]); w != c[1] || err != api.OK {
			t.Errorf("Weekday of %d: %d, error %d", c[0], w, err)
		}
	}
	for _, day := range outside(0, 100000) {
		if w, err := night.Weekday(day); w != 0 || err != api.ErrArg {
			t.Errorf("Weekday of %d: %d, error %d", day, w, err)
		}
	}
}
