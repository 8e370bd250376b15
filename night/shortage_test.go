package night_test

import (
	"math"
	"math/rand/v2"
	"slices"
	"testing"

	"blazon/api"
	"blazon/night"
)

// P8.4: IsShortage, with the chapter's examples, and lists that are none.
func TestIsShortage(t *testing.T) {
	jobs, nights := good()
	for _, c := range []struct {
		nights []api.Night
		list   []int
		is     bool
	}{
		{nights[:1], []int{0, 1}, true}, {nights[:1], []int{0}, false}, {nights[:1], []int{1}, false}, {nights[:1], nil, false},
		{nights[:1], []int{1, 0}, false}, {nights[:1], []int{0, 0}, false}, {nights[:1], []int{1, 1}, false}, {nights[:1], []int{0, 1, 1}, false},
		{nights[:1], []int{0, 1, 2}, false}, {nights[:1], []int{-1, 0, 1}, false}, {nights[:1], []int{0, 1, 0}, false},
		{nights[:1], []int{math.MinInt, 0, 1}, false}, {nights[:1], []int{0, 1, math.MaxInt}, false},
		{nights, []int{0, 1}, false}, {nights, []int{0}, false}, {nights[1:], []int{0, 1}, true}, {nights[1:], []int{0}, true}, {nights[1:], []int{1}, false},
		{nil, []int{0}, true}, {nil, []int{1}, true}, {nil, []int{0, 1}, true}, {nil, nil, false}, {nil, []int{2}, false},
		{[]api.Night{shift(12, 0, 1000, 0)}, []int{0}, true}, {[]api.Night{shift(12, 0, 1000, 0), nights[0], nights[0]}, []int{0, 1}, false},
	} {
		is, err := night.IsShortage(jobs, c.nights, c.list)
		if is != c.is || err != api.OK {
			t.Errorf("IsShortage of %v, %v: %v, error %d", c.nights, c.list, is, err)
		}
	}
	if is, err := night.IsShortage(nil, nights, []int{0}); is || err != api.OK {
		t.Errorf("IsShortage without jobs: %v, error %d", is, err)
	}
}

// P8.4: Shortage, with the chapter's examples.
func TestShortage(t *testing.T) {
	jobs, nights := good()
	for _, c := range []struct {
		jobs   []api.Job
		nights []api.Night
		want   []int
	}{
		{jobs, nights[:1], []int{0, 1}}, {jobs, nights, nil}, {jobs, nights[1:], []int{0}}, {nil, nights, nil}, {nil, nil, nil}, {jobs[:1], nil, []int{0}},
		{append([]api.Job{{Number: 7, Road: 9, Crew: 1}}, jobs...), nights, []int{0}},
		{jobs, []api.Night{shift(12, 0, 500, 5), shift(12, 850, 950, 0)}, []int{1}},
	} {
		list, short, err := night.Shortage(c.jobs, c.nights)
		if !slices.Equal(list, c.want) || short != (len(c.want) > 0) || err != api.OK {
			t.Errorf("Shortage of %v, %v: %v, %v, error %d", c.jobs, c.nights, list, short, err)
		}
	}
}

// P8.4, P8.8, P8.9: of few jobs all lists are as the second way says; there is a shortage exactly if there is no plan.
func TestFewShortages(t *testing.T) {
	r := rand.New(rand.NewPCG(8, 7))
	for range 2000 {
		jobs, nights := someJobs(r, few())
		p := plan(t, jobs, nights)
		short, least := false, len(jobs)
		for _, list := range everyList(len(jobs)) {
			places := placesOf(jobs, nights, list)
			is, err := night.IsShortage(jobs, nights, list)
			if is != (places < len(list)) || err != api.OK {
				t.Fatalf("IsShortage of %v, %v, %v: %v, error %d", jobs, nights, list, is, err)
			}
			short = short || is
			least = min(least, len(jobs)-len(list)+places)
		}
		if p.most != least || p.short != short || p.hasShort != short || (p.most == len(jobs)) == short {
			t.Fatalf("%v, %v: %v, but there is a shortage: %v, and the bound is %d", jobs, nights, p, short, least)
		}
	}
}

// P8.4, P8.8, P8.9: of many jobs there is either a plan or a list that is a shortage; no list allows fewer than Most.
func TestManyShortages(t *testing.T) {
	r := rand.New(rand.NewPCG(8, 8))
	long := 0
	for range 500 {
		jobs, nights := someJobs(r, many(r))
		p := plan(t, jobs, nights)
		if p.hasShort != p.short || p.hasShort != (p.most < len(jobs)) {
			t.Fatalf("%v, %v: %v", jobs, nights, p)
		}
		if p.hasShort {
			is, err := night.IsShortage(jobs, nights, p.has)
			if !is || err != api.OK || !slices.IsSorted(p.has) || placesOf(jobs, nights, p.has) >= len(p.has) {
				t.Fatalf("%v, %v: %v is no shortage, error %d", jobs, nights, p.has, err)
			}
		}
		if len(p.has) > 3 {
			long++
		}
		for range 20 {
			list := someList(r, len(jobs))
			if p.most > len(jobs)-len(list)+placesOf(jobs, nights, list) {
				t.Fatalf("%v, %v: Most is %d, but there is the list %v", jobs, nights, p.most, list)
			}
		}
	}
	if long < 20 {
		t.Errorf("only %d shortages are long", long)
	}
}

// someList returns some indexes in ascending order.
func someList(r *rand.Rand, length int) []int {
	var list []int
	for i := range length {
		if r.IntN(2) == 0 {
			list = append(list, i)
		}
	}
	return list
}
