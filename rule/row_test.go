package rule_test

import (
	"math"
	"math/rand/v2"
	"slices"
	"testing"

	"blazon/api"
	"blazon/rule"
)

// P7.2: Speaks, whatever the fields of the sign and the hour are.
func TestSpeaks(t *testing.T) {
	for _, c := range []struct {
		up, down int
		covers   []api.Span
		hours    map[int]bool
	}{
		{5, 10, nil, map[int]bool{4: false, 5: true, 9: true, 10: false, 0: false, -1: false, math.MinInt: false, math.MaxInt: false}},
		{5, 10, []api.Span{}, map[int]bool{5: true}},
		{5, 10, []api.Span{span(6, 8)}, map[int]bool{5: true, 6: false, 7: false, 8: true, 9: true}},
		{5, 10, []api.Span{span(0, 6), span(9, 100)}, map[int]bool{5: false, 6: true, 8: true, 9: false}},
		{5, 10, []api.Span{span(5, 7), span(7, 10)}, map[int]bool{5: false, 6: false, 7: false, 9: false}},
		{5, 10, []api.Span{span(0, 20), span(7, 8)}, map[int]bool{5: false, 7: false, 9: false}},
		{5, 10, []api.Span{span(7, 7), span(9, 6)}, map[int]bool{6: true, 7: true, 8: true}},
		{10, 5, nil, map[int]bool{4: false, 5: false, 7: false, 10: false}},
		{7, 7, nil, map[int]bool{6: false, 7: false, 8: false}},
		{-5, -2, nil, map[int]bool{-6: false, -5: true, -3: true, -2: false}},
		{math.MinInt, math.MaxInt, nil, map[int]bool{math.MinInt: true, 0: true, math.MaxInt - 1: true, math.MaxInt: false}},
		{math.MinInt, math.MaxInt, []api.Span{span(math.MinInt, math.MaxInt)}, map[int]bool{math.MinInt: false, 0: false}},
		{0, maxHour + 1, slices.Repeat([]api.Span{span(3, 4)}, 20), map[int]bool{2: true, 3: false, 4: true, maxHour: true, maxHour + 1: false}},
	} {
		for hour, want := range c.hours {
			// the other fields are not valid
			s := api.Sign{Number: -1, Kind: 77, Chain: -3, Up: c.up, Down: c.down, Covers: c.covers}
			if got := rule.Speaks(s, hour); got != want {
				t.Errorf("Speaks of %v at the hour %d: %v", s, hour, got)
			}
		}
	}
}

// P7.2: Row, by distance, rank and number.
func TestRow(t *testing.T) {
	down := func(s api.Sign) api.Sign {
		s.Dir = -1
		return s
	}
	list := []api.Sign{
		post(1, api.Warning, 0, 500, 2), post(20, api.Warning, 0, 500, 1), post(3, api.Warning, 0, 500, 1), post(10, api.Warning, 0, 0, 9),
		post(2, api.Warning, 0, 1000, 1), post(5, api.Warning, 0, 499, 9), down(post(6, api.Warning, 0, 500, 2)), down(post(7, api.Warning, 0, 500, 1)),
		down(post(8, api.Warning, 0, 501, 9)), down(post(9, api.Warning, 0, 1000, 1)), down(post(4, api.Warning, 0, 0, 1)),
	}
	list[4].Up, list[4].Down = 3, 6
	list[0].Covers = []api.Span{span(4, 5)}
	for _, c := range []struct {
		hour, dir int
		want      []int
	}{
		{0, 1, []int{10, 5, 3, 20, 1}}, {3, 1, []int{10, 5, 3, 20, 1, 2}}, {4, 1, []int{10, 5, 3, 20, 2}}, {5, 1, []int{10, 5, 3, 20, 1, 2}},
		{6, 1, []int{10, 5, 3, 20, 1}}, {0, -1, []int{9, 8, 7, 6, 4}}, {maxHour, -1, []int{9, 8, 7, 6, 4}},
	} {
		if got, err := rule.Row(line(), list, c.hour, c.dir); !slices.Equal(got, c.want) || err != api.OK {
			t.Errorf("Row at the hour %d, direction %d: %v, error %d, not %v", c.hour, c.dir, got, err, c.want)
		}
	}
	if got, err := rule.Row(line(), nil, 0, 1); len(got) != 0 || err != api.OK {
		t.Errorf("Row of no signs: %v, error %d", got, err)
	}
}

// P7.2: Row is as the second way says, in whatever order the signs come.
func TestSomeRows(t *testing.T) {
	r := rand.New(rand.NewPCG(7, 2))
	for range 3000 {
		l := someLine(r)
		list := someSigns(r, l, 14)
		hour, dir := tries()[r.IntN(30)], 1-2*r.IntN(2)
		var want []int
		for _, s := range referenceRow(l, list, hour, dir) {
			want = append(want, s.Number)
		}
		for range 3 {
			if got, err := rule.Row(l, list, hour, dir); !slices.Equal(got, want) || err != api.OK {
				t.Fatalf("Row of %v on %v at the hour %d, direction %d: %v, error %d, not %v", list, l, hour, dir, got, err, want)
			}
			r.Shuffle(len(list), func(i, j int) { list[i], list[j] = list[j], list[i] })
		}
	}
}
