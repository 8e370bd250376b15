package road_test

import (
	"math"
	"reflect"
	"slices"
	"testing"

	"blazon/api"
	"blazon/road"
)

const maxChain = 10000000

// example is the road of the chapter's first example.
func example() api.Road {
	return api.Road{Number: 1, Length: 1000, Changes: []api.Change{{Day: 10, From: 200, To: 500, New: 100}}}
}

// good is a road with each kind of change; its versions are 1000, 800, 750, 790 and 790 metres long.
func good() api.Road {
	return api.Road{Number: 7, Length: 1000, Changes: []api.Change{
		{Day: 10, From: 200, To: 500, New: 100},
		{Day: 10, From: 0, To: 50, New: 0},
		{Day: 200, From: 300, To: 300, New: 40},
		{Day: 300, From: 700, To: 790, New: 90},
	}}
}

// greatest is a road at its upper limits.
func greatest() api.Road {
	change := api.Change{Day: 100000, From: 0, To: maxChain, New: maxChain}
	return api.Road{Number: 1000000, Length: maxChain, Changes: slices.Repeat([]api.Change{change}, 40)}
}

// least is a road at its lower limits.
func least() api.Road {
	return api.Road{Number: 1, Changes: slices.Repeat([]api.Change{{}}, 40)}
}

func cloneRoad(r api.Road) api.Road {
	r.Changes = slices.Clone(r.Changes)
	return r
}

// invalidRoads returns roads that are not valid for one reason each.
func invalidRoads() []api.Road {
	var roads []api.Road
	change := func(f func(r *api.Road)) {
		r := good()
		f(&r)
		roads = append(roads, r)
	}
	for _, n := range []int{0, -1, 1000001, math.MinInt, math.MaxInt} {
		change(func(r *api.Road) { r.Number = n })
	}
	for _, n := range []int{-1, maxChain + 1, math.MinInt, math.MaxInt} {
		change(func(r *api.Road) { r.Length = n })
		change(func(r *api.Road) { r.Length, r.Changes = n, nil })
	}
	// a change would make it one metre too long, or end beyond its end
	change(func(r *api.Road) { r.Length, r.Changes[0].New = maxChain, 301 })
	change(func(r *api.Road) { r.Length = 499 })
	change(func(r *api.Road) { r.Length = 999 })
	change(func(r *api.Road) { r.Changes = slices.Repeat([]api.Change{{}}, 41) })
	for _, day := range []int{-1, 11, 100001, math.MinInt, math.MaxInt} {
		change(func(r *api.Road) { r.Changes[0].Day = day })
	}
	for _, day := range []int{199, 10, -1, 100001, math.MinInt, math.MaxInt} {
		change(func(r *api.Road) { r.Changes[3].Day = day })
	}
	for _, n := range []int{-1, 501, 1001, math.MinInt, math.MaxInt} {
		change(func(r *api.Road) { r.Changes[0].From, r.Changes = n, r.Changes[:1] })
	}
	for _, n := range []int{199, 1001, -1, math.MinInt, math.MaxInt} {
		change(func(r *api.Road) { r.Changes[0].To, r.Changes = n, r.Changes[:1] })
	}
	change(func(r *api.Road) { r.Changes[3].From, r.Changes[3].To = -5, -3 })
	change(func(r *api.Road) { r.Changes[3].To = 791 })
	change(func(r *api.Road) { r.Changes[3].From, r.Changes[3].To = 791, 791 })
	change(func(r *api.Road) { r.Changes[3].From, r.Changes[3].To = math.MinInt, math.MaxInt })
	for _, n := range []int{-1, maxChain + 1, maxChain, maxChain - 699, math.MinInt, math.MaxInt} {
		change(func(r *api.Road) { r.Changes[0].New, r.Changes = n, r.Changes[:1] })
	}
	// what is too long in between may not become short again
	change(func(r *api.Road) {
		r.Changes = []api.Change{{New: maxChain}, {To: maxChain}}
	})
	return append(roads, api.Road{}, api.Road{Number: 1, Length: maxChain, Changes: []api.Change{{New: 1}}},
		api.Road{Number: 1, Length: 1, Changes: []api.Change{{New: maxChain}}},
		api.Road{Number: 1, Changes: []api.Change{{To: 1}}})
}

// P6.2: Valid, at the limits and just beyond them.
func TestValid(t *testing.T) {
	for _, r := range invalidRoads() {
		if road.Valid(r) {
			t.Errorf("the road is valid: %v", r)
		}
	}
	roads := []api.Road{example(), good(), greatest(), least(), {Number: 1}, {Number: 1000000, Length: maxChain, Changes: []api.Change{}}}
	change := func(f func(r *api.Road)) {
		r := good()
		f(&r)
		roads = append(roads, r)
	}
	change(func(r *api.Road) { r.Length = maxChain })
	change(func(r *api.Road) { r.Length, r.Changes[0].New = maxChain, 300 })
	change(func(r *api.Road) { r.Changes[0].Day = 0 })
	change(func(r *api.Road) { r.Changes[2].Day = 10 })
	change(func(r *api.Road) { r.Changes[3].Day = 100000 })
	change(func(r *api.Road) { r.Changes[3].From = 790 })
	change(func(r *api.Road) { r.Changes[3].New = maxChain - 700 })
	change(func(r *api.Road) {
		r.Changes = append(r.Changes, api.Change{Day: 300, From: 0, To: 790, New: maxChain})
	})
	change(func(r *api.Road) {
		r.Changes = append(r.Changes, api.Change{Day: 300, From: 0, To: 790, New: 0}, api.Change{Day: 300, New: maxChain})
	})
	for _, r := range roads {
		if !road.Valid(r) {
			t.Errorf("the road is not valid: %v", r)
		}
	}
}

// P6.2: Length of each version, also of the greatest and the least road.
func TestLength(t *testing.T) {
	for version, want := range []int{1000, 800, 750, 790, 790} {
		if got, err := road.Length(good(), version); got != want || err != api.OK {
			t.Errorf("Length of the version %d: %d, error %d", version, got, err)
		}
	}
	for _, version := range []int{0, 1, 40} {
		if got, err := road.Length(greatest(), version); got != maxChain || err != api.OK {
			t.Errorf("Length of the version %d of the greatest road: %d, error %d", version, got, err)
		}
		if got, err := road.Length(least(), version); got != 0 || err != api.OK {
			t.Errorf("Length of the version %d of the least road: %d, error %d", version, got, err)
		}
	}
	for _, version := range []int{-1, 5, math.MinInt, math.MaxInt} {
		if got, err := road.Length(good(), version); got != 0 || err != api.ErrVersion {
			t.Errorf("Length of the version %d: %d, error %d", version, got, err)
		}
	}
	if got, err := road.Length(api.Road{Number: 1, Length: 5}, 1); got != 0 || err != api.ErrVersion {
		t.Errorf("Length of the version 1 without changes: %d, error %d", got, err)
	}
}

// P6.2: At.
func TestAt(t *testing.T) {
	for _, c := range [][2]int{{0, 0}, {9, 0}, {10, 2}, {11, 2}, {199, 2}, {200, 3}, {299, 3}, {300, 4}, {301, 4}, {100000, 4}} {
		if got, err := road.At(good(), c[0]); got != c[1] || err != api.OK {
			t.Errorf("At of the day %d: %d, error %d, not %d", c[0], got, err, c[1])
		}
	}
	for _, c := range []struct {
		r         api.Road
		day, want int
	}{
		{greatest(), 99999, 0}, {greatest(), 100000, 40}, {least(), 0, 40}, {api.Road{Number: 1}, 0, 0}, {api.Road{Number: 1}, 100000, 0},
	} {
		if got, err := road.At(c.r, c.day); got != c.want || err != api.OK {
			t.Errorf("At of the day %d: %d, error %d, not %d", c.day, got, err, c.want)
		}
	}
	for _, day := range []int{-1, 100001, math.MinInt, math.MaxInt} {
		if got, err := road.At(good(), day); got != 0 || err != api.ErrArg {
			t.Errorf("At of the day %d: %d, error %d", day, got, err)
		}
	}
}

// outcome is what a call returned, and whether its other results are zero.
type outcome struct {
	name string
	zero bool
	err  api.Errno
}

// versioned calls every function that has a version as an argument.
func versioned(r api.Road, from, to, c, d int) []outcome {
	length, e1 := road.Length(r, from)
	carried, e2 := road.Carry(r, c, from, to)
	kept, e3 := road.Kept(r, api.Span{From: c, To: d}, from, to)
	same, e4 := road.Same(r, c, from, d, to)
	gone, e5 := road.Gone(r, from, to)
	return []outcome{
		{"Length", length == 0, e1}, {"Carry", carried == 0, e2}, {"Kept", len(kept) == 0, e3},
		{"Same", !same, e4}, {"Gone", gone == 0, e5},
	}
}

// P6.1: a road that is not valid is the first error of every function, also beside wrong versions and arguments.
func TestErrRoadFirst(t *testing.T) {
	for _, r := range invalidRoads() {
		for _, n := range []int{0, 1, 4, -1, 5, math.MinInt, math.MaxInt} {
			for _, c := range []int{0, 100, -1, math.MinInt, math.MaxInt} {
				day, err := road.At(r, c)
				for _, o := range append(versioned(r, n, 0, c, c+1), outcome{"At", day == 0, err}) {
					if !o.zero || o.err != api.ErrRoad {
						t.Fatalf("%s of the invalid road %v with %d, %d: zero %v, error %d", o.name, r, n, c, o.zero, o.err)
					}
				}
			}
		}
	}
}

// P6.1: a version that there is not comes before all errors but ErrRoad.
func TestErrVersionSecond(t *testing.T) {
	for _, n := range []int{-1, 5, 41, math.MinInt, math.MaxInt} {
		for _, c := range []int{0, 100, 250, -1, 1001, math.MinInt, math.MaxInt} {
			for _, o := range versioned(good(), n, 0, c, c+1) {
				if !o.zero || o.err != api.ErrVersion {
					t.Errorf("%s from the version %d with %d: zero %v, error %d", o.name, n, c, o.zero, o.err)
				}
			}
			for _, o := range versioned(good(), 0, n, c, c+1)[1:] {
				if !o.zero || o.err != api.ErrVersion {
					t.Errorf("%s to the version %d with %d: zero %v, error %d", o.name, n, c, o.zero, o.err)
				}
			}
		}
	}
	for _, o := range versioned(api.Road{Number: 1, Length: 9}, 1, 1, 0, 1) {
		if !o.zero || o.err != api.ErrVersion {
			t.Errorf("%s from the version 1 without changes: zero %v, error %d", o.name, o.zero, o.err)
		}
	}
}

// R4: the changes of a road are read up to their length alone, and are not changed.
func TestRoadStays(t *testing.T) {
	r := good()
	r.Changes = append(slices.Clone(r.Changes), api.Change{Day: -7})[:4]
	kept := cloneRoad(r)
	for from := range 5 {
		for to := range 5 {
			want := versioned(good(), from, to, 100, 700)
			if got := versioned(r, from, to, 100, 700); !slices.Equal(got, want) {
				t.Errorf("with something behind the changes: %v, not %v", got, want)
			}
		}
	}
	if _, err := road.At(r, 100000); err != api.OK || !reflect.DeepEqual(r, kept) || r.Changes[:5][4] != (api.Change{Day: -7}) {
		t.Errorf("the road became %v, error %d", r, err)
	}
}
