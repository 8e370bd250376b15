package light_test

import (
	"math"
	"math/rand/v2"
	"slices"
	"testing"

	"blazon/api"
	"blazon/light"
)

// badAgeing returns Keeps and numbers of years of which one is out of its range.
func badAgeing() [][2]int {
	var bad [][2]int
	for _, keep := range []int{-1, 1001, math.MinInt, math.MaxInt} {
		bad = append(bad, [2]int{keep, 0}, [2]int{keep, 2})
	}
	for _, years := range []int{-1, 301, math.MinInt, math.MaxInt} {
		bad = append(bad, [2]int{0, years}, [2]int{900, years})
	}
	return bad
}

// P3.6: Aged, with the chapter's example and at its limits.
func TestAged(t *testing.T) {
	for _, c := range []struct{ r, keep, years, want int }{
		{250, 900, 0, 250},
		{250, 900, 1, 225},
		{250, 900, 2, 202},
		{250, 900, 3, 181}, // of 202, not of 202.5
		{1, 999, 1, 0},
		{999, 999, 1, 998},
		{100000, 1000, 300, 100000},
		{100000, 999, 300, 73942},
		{100000, 0, 0, 100000},
		{100000, 0, 1, 0},
		{0, 1000, 300, 0},
		{5, 0, 300, 0},
	} {
		got, err := light.Aged(c.r, c.keep, c.years)
		if got != c.want || got != exactAged(c.r, c.keep, c.years) || err != api.OK {
			t.Errorf("Aged(%d, %d, %d): %d, error %d, not %d", c.r, c.keep, c.years, got, err, c.want)
		}
	}
	for _, c := range badAgeing() {
		if got, err := light.Aged(250, c[0], c[1]); got != 0 || err != api.ErrArg {
			t.Errorf("Aged(250, %d, %d): %d, error %d", c[0], c[1], got, err)
		}
	}
	for _, r := range []int{-1, 100001, math.MinInt, math.MaxInt} {
		for _, years := range []int{0, 2} {
			if got, err := light.Aged(r, 900, years); got != 0 || err != api.ErrArg {
				t.Errorf("Aged(%d, 900, %d): %d, error %d", r, years, got, err)
			}
		}
	}
}

// north is the ageing of the chapter's example; the other sides are others.
func north() api.Ageing {
	return api.Ageing{Keep: [4]int{900, 800, 0, 1000}}
}

func days(n, from, r int) []api.Measure {
	var m []api.Measure
	for k := range n {
		m = append(m, api.Measure{Day: from + k, R: r})
	}
	return m
}

// P3.6: Value: which measure, which side, and how many years.
func TestValue(t *testing.T) {
	m := []api.Measure{{Day: 10, R: 250}, {Day: 400, R: 240}, {Day: 1000, R: 300}}
	for _, c := range []struct {
		side, day int
		m         []api.Measure
		want      int
	}{
		{0, 10, m, 250},
		{0, 374, m, 250},
		{0, 375, m, 225},
		{0, 399, m, 225},
		{0, 400, m, 240},
		{0, 764, m, 240},
		{0, 765, m, 216},
		{0, 999, m, 216},
		{0, 1000, m, 300},
		{0, 1729, m, 270},
		{0, 1730, m, 243},
		{1, 1730, m, 192},
		{2, 1000, m, 300},
		{2, 1364, m, 300},
		{2, 1365, m, 0},
		{3, 100000, m, 300},
		{0, 100000, m, 0}, // 1 * 900 / 1000 is 0
		{3, 5, []api.Measure{{Day: 5, R: 0}}, 0},
		{3, 100000, []api.Measure{{Day: 0, R: 100000}}, 100000},
		{1, 100000, []api.Measure{{Day: 100000, R: 7}}, 7},
		{3, 100000, days(50, 3, 9), 9},
		{3, 10, append(slices.Clone(m), api.Measure{})[:3], 250},
	} {
		if got, err := light.Value(north(), c.side, c.m, c.day); got != c.want || err != api.OK {
			t.Errorf("Value on side %d of %v on %d: %d, error %d, not %d", c.side, c.m, c.day, got, err, c.want)
		}
	}
}

// P3.6: Due, with the chapter's example and at its limits.
func TestDue(t *testing.T) {
	one := []api.Measure{{Day: 0, R: 250}}
	for _, c := range []struct {
		side, least int
		m           []api.Measure
		day         int
		ok          bool
	}{
		{0, 210, one, 730, true},
		{0, 225, one, 730, true},
		{0, 226, one, 365, true},
		{0, 250, one, 365, true},
		{0, 251, one, 0, true},
		{0, 100000, one, 0, true},
		{0, 0, one, 0, false},
		{2, 1, one, 365, true},
		{2, 0, one, 0, false},
		{3, 250, one, 0, false},
		{3, 251, one, 0, true},
		{1, 161, one, 730, true},
		{1, 160, one, 1095, true},
		// only the last measure counts
		{3, 200, []api.Measure{{Day: 5, R: 100}, {Day: 9, R: 200}}, 0, false},
		{3, 200, []api.Measure{{Day: 5, R: 300}, {Day: 9, R: 199}}, 9, true},
		{0, 200, []api.Measure{{Day: 5, R: 100}, {Day: 9, R: 200}}, 374, true},
		// up to the last day
		{2, 1, []api.Measure{{Day: 99635, R: 5}}, 100000, true},
		{2, 1, []api.Measure{{Day: 99636, R: 5}}, 0, false},
		{2, 1, []api.Measure{{Day: 100000, R: 0}}, 100000, true},
		{2, 1, []api.Measure{{Day: 100000, R: 1}}, 0, false},
		{2, 1, days(50, 99951, 0), 100000, true},
		{2, 100000, []api.Measure{{Day: 100000, R: 100000}}, 0, false},
	} {
		if day, ok, err := light.Due(north(), c.side, c.m, c.least); day != c.day || ok != c.ok || err != api.OK {
			t.Errorf("Due on side %d of %v with %d: %d, %v, error %d, not %d, %v", c.side, c.m, c.least, day, ok, err, c.day, c.ok)
		}
	}
	late := api.Ageing{Keep: [4]int{999, 999, 999, 999}}
	// 273 years are over on the day 99645, and 274 would be over on 100010
	least := exactAged(100000, 999, 273)
	if day, ok, err := light.Due(late, 0, []api.Measure{{Day: 0, R: 100000}}, least+1); day != 99645 || !ok || err != api.OK {
		t.Errorf("Due after 273 years: %d, %v, error %d", day, ok, err)
	}
	if day, ok, err := light.Due(late, 0, []api.Measure{{Day: 0, R: 100000}}, least); day != 0 || ok || err != api.OK {
		t.Errorf("Due after 274 years: %d, %v, error %d", day, ok, err)
	}
}

// invalidHistories returns sides, ageings and measures of which one is not as it must be.
func invalidHistories() []history {
	var all []history
	good := history{north(), 1, []api.Measure{{Day: 10, R: 250}}}
	for _, side := range []int{-1, 4, math.MinInt, math.MaxInt} {
		all = append(all, history{good.a, side, good.m})
	}
	for k := range 4 {
		for _, keep := range []int{-1, 1001, math.MinInt, math.MaxInt} {
			h := good
			h.a.Keep[k] = keep
			all = append(all, h)
		}
	}
	for _, m := range [][]api.Measure{
		nil,
		{},
		days(51, 0, 5),
		{{Day: -1, R: 5}},
		{{Day: 100001, R: 5}},
		{{Day: math.MinInt, R: 5}},
		{{Day: math.MaxInt, R: 5}},
		{{Day: 0, R: -1}},
		{{Day: 0, R: 100001}},
		{{Day: 0, R: math.MinInt}},
		{{Day: 0, R: math.MaxInt}},
		{{Day: 5, R: 5}, {Day: 5, R: 4}},
		{{Day: 5, R: 5}, {Day: 4, R: 4}},
		{{Day: 5, R: 5}, {Day: 6, R: 5}, {Day: 1, R: 5}},
		{{Day: 5, R: 5}, {Day: 6, R: -1}},
		{{Day: 5, R: 5}, {Day: 6, R: 100001}, {Day: 7, R: 5}},
		{{Day: 5, R: 5}, {Day: 100001, R: 5}},
		{{Day: 5, R: 5}, {Day: math.MaxInt, R: 5}},
	} {
		all = append(all, history{good.a, good.side, m})
	}
	return all
}

type history struct {
	a    api.Ageing
	side int
	m    []api.Measure
}

// P3.6: the errors of Value and Due.
func TestHistoryErrors(t *testing.T) {
	for _, h := range invalidHistories() {
		for _, day := range []int{0, 10, 100000, -1} {
			if got, err := light.Value(h.a, h.side, h.m, day); got != 0 || err != api.ErrArg {
				t.Errorf("Value of %v on %d: %d, error %d", h, day, got, err)
			}
		}
		for _, least := range []int{0, 250, 100000, -1} {
			if day, ok, err := light.Due(h.a, h.side, h.m, least); day != 0 || ok || err != api.ErrArg {
				t.Errorf("Due of %v with %d: %d, %v, error %d", h, least, day, ok, err)
			}
		}
	}
	m := []api.Measure{{Day: 10, R: 250}, {Day: 20, R: 240}}
	for _, day := range []int{9, 0, -1, 100001, math.MinInt, math.MaxInt} {
		if got, err := light.Value(north(), 0, m, day); got != 0 || err != api.ErrArg {
			t.Errorf("Value on %d: %d, error %d", day, got, err)
		}
	}
	for _, least := range []int{-1, 100001, math.MinInt, math.MaxInt} {
		if day, ok, err := light.Due(north(), 0, m, least); day != 0 || ok || err != api.ErrArg {
			t.Errorf("Due with %d: %d, %v, error %d", least, day, ok, err)
		}
	}
}

// someHistory returns what Value and Due take.
func someHistory(r *rand.Rand) history {
	var h history
	for k := range h.a.Keep {
		h.a.Keep[k] = 1000 - r.IntN([]int{2, 200, 1001}[r.IntN(3)])
	}
	h.side = r.IntN(4)
	day := r.IntN([]int{2, 2000, 95000}[r.IntN(3)])
	for range 1 + r.IntN(5) {
		h.m = append(h.m, api.Measure{Day: day, R: r.IntN([]int{3, 500, 100001}[r.IntN(3)])})
		day += 1 + r.IntN([]int{3, 1000}[r.IntN(2)])
	}
	return h
}

// P3.6: Value by exact numbers, on days of all kinds. R4: it does not change the measures.
func TestValueExactly(t *testing.T) {
	r := rand.New(rand.NewPCG(36, 1))
	for range 2000 {
		h := someHistory(r)
		kept := slices.Clone(h.m)
		first := h.m[0].Day
		for range 5 {
			day := first + r.IntN(min(100000-first, []int{5, 5000, 100000}[r.IntN(3)])+1)
			got, err := light.Value(h.a, h.side, h.m, day)
			if want := exactValue(h.a, h.side, h.m, day); got != want || err != api.OK {
				t.Fatalf("Value of %v on %d: %d, error %d, not %d", h, day, got, err, want)
			}
		}
		if !slices.Equal(h.m, kept) {
			t.Fatalf("Value changed %v to %v", kept, h.m)
		}
	}
}

// firstBelow returns the first day from that of the last measure on on which Value is below least, day by day.
func firstBelow(t *testing.T, h history, least int) (int, bool) {
	t.Helper()
	for day := h.m[len(h.m)-1].Day; day <= 100000; day++ {
		value, err := light.Value(h.a, h.side, h.m, day)
		if err != api.OK {
			t.Fatalf("Value of %v on %d: error %d", h, day, err)
		}
		if value < least {
			return day, true
		}
	}
	return 0, false
}

// P3.6, P3.11: Due is the first day on which Value is below least; a greater Keep never gives an earlier one.
func TestDueByDays(t *testing.T) {
	r := rand.New(rand.NewPCG(36, 2))
	for range 100 {
		h := someHistory(r)
		last := h.m[len(h.m)-1]
		least := min(max(0, last.R-r.IntN(last.R+2)+r.IntN(2)), 100000)
		day, ok, err := light.Due(h.a, h.side, h.m, least)
		if want, is := firstBelow(t, h, least); day != want || ok != is || err != api.OK {
			t.Fatalf("Due of %v with %d: %d, %v, error %d, not %d, %v", h, least, day, ok, err, want, is)
		}
		more := h
		more.a.Keep[h.side] = min(h.a.Keep[h.side]+r.IntN(50), 1000)
		if later, still, _ := light.Due(more.a, h.side, h.m, least); still && (!ok || later < day) {
			t.Fatalf("Due of %v with %d: %d, %v; with a greater Keep %d", h, least, day, ok, later)
		}
	}
}

// P3.11: Aged does not grow with years, and m and then n years are m + n; Value does not rise between measures.
func TestAgeing(t *testing.T) {
	r := rand.New(rand.NewPCG(311, 1))
	aged := func(c, keep, years int) int {
		got, err := light.Aged(c, keep, years)
		if err != api.OK {
			t.Fatalf("Aged(%d, %d, %d): error %d", c, keep, years, err)
		}
		return got
	}
	for range 3000 {
		c, keep, m, n := r.IntN(100001), 1000-r.IntN([]int{50, 1001}[r.IntN(2)]), r.IntN(151), r.IntN(151)
		if aged(c, keep, m+n) != aged(aged(c, keep, m), keep, n) || aged(c, keep, m+n) > aged(c, keep, m) {
			t.Fatalf("Aged of %d by %d for %d and %d years", c, keep, m, n)
		}
	}
	for range 200 {
		h := someHistory(r)
		first, last := h.m[0].Day, h.m[len(h.m)-1].Day
		before, _ := light.Value(h.a, h.side, h.m, first)
		for day := first + 1; day < last+2000 && day <= 100000; day++ {
			value, _ := light.Value(h.a, h.side, h.m, day)
			measured := slices.ContainsFunc(h.m, func(m api.Measure) bool { return m.Day == day })
			if value > before && !measured {
				t.Fatalf("Value of %v rises on %d from %d to %d", h, day, before, value)
			}
			before = value
		}
	}
}
