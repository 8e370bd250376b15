package rule_test

import (
	"math/rand/v2"
	"slices"
	"testing"

	"blazon/api"
	"blazon/rule"
)

func fault(number, code int) api.Fault {
	return api.Fault{Number: number, Code: code}
}

// P7.5: each fault, and what is none, on the line with a junction at 600.
func TestFaults(t *testing.T) {
	limit, pass := post(1, api.Limit, 70, 200, 1), post(2, api.NoPass, 0, 200, 2)
	plate := func(value, chain, rank int) api.Sign { return post(3, api.Plate, value, chain, rank) }
	repeat := func(value, chain, rank int) api.Sign { return post(4, api.Repeat, value, chain, rank) }
	for _, c := range []struct {
		what  string
		signs []api.Sign
		want  []api.Fault
	}{
		{"nothing", nil, nil},
		{"no fault", []api.Sign{limit, plate(150, 200, 2)}, nil},
		{"the plate of a NoPass", []api.Sign{limit, pass, plate(150, 200, 3)}, nil},
		{"a plate up to the end", []api.Sign{limit, plate(800, 200, 2)}, nil},
		{"a plate beyond the end", []api.Sign{limit, plate(801, 200, 2)}, []api.Fault{fault(3, 1)}},
		{"a plate at the last metre", []api.Sign{post(1, api.Limit, 70, 999, 1), plate(1, 999, 2)}, nil},
		{"a plate at the end", []api.Sign{post(1, api.Limit, 70, 1000, 1), plate(1, 1000, 2)}, []api.Fault{fault(1, 4), fault(3, 1)}},
		{"a plate alone", []api.Sign{plate(1, 200, 1)}, []api.Fault{fault(3, 1)}},
		{"a plate above", []api.Sign{post(1, api.Limit, 70, 200, 2), plate(1, 200, 1)}, []api.Fault{fault(3, 1)}},
		{"a plate behind", []api.Sign{limit, plate(1, 201, 2)}, []api.Fault{fault(3, 1)}},
		{"two plates", []api.Sign{limit, plate(150, 200, 2), post(5, api.Plate, 150, 200, 3)}, []api.Fault{fault(5, 1)}},
		{"the plate of a Warning", []api.Sign{post(1, api.Warning, 0, 200, 1), plate(150, 200, 2)}, []api.Fault{fault(3, 1)}},
		{"the plate of a Repeat", []api.Sign{limit, repeat(70, 200, 2), plate(150, 200, 3)}, []api.Fault{fault(3, 1)}},
		{"the plate of an end", []api.Sign{limit, post(5, api.LimitEnd, 0, 300, 1), plate(150, 300, 2)}, []api.Fault{fault(3, 1)}},
		{"the plate for the other direction", append(turned(limit), plate(150, 200, 2)), []api.Fault{fault(3, 1)}},
		{"a repeat", []api.Sign{limit, repeat(70, 599, 1)}, nil},
		{"a repeat above its limit", []api.Sign{limit, post(4, api.Repeat, 70, 200, 1)}, nil},
		{"a repeat of what ends on its post", []api.Sign{limit, repeat(70, 300, 1), post(5, api.LimitEnd, 0, 300, 2)}, []api.Fault{fault(4, 2)}},
		{"a repeat at the junction", []api.Sign{limit, repeat(70, 600, 1)}, []api.Fault{fault(4, 2)}},
		{"a repeat of another value", []api.Sign{limit, repeat(50, 300, 1)}, []api.Fault{fault(4, 2)}},
		{"a repeat in front", []api.Sign{limit, repeat(70, 199, 1)}, []api.Fault{fault(4, 2)}},
		{"a repeat of nothing", []api.Sign{repeat(70, 0, 1)}, []api.Fault{fault(4, 2)}},
		{"a repeat behind a plate", []api.Sign{limit, plate(150, 200, 2), repeat(70, 349, 1), post(5, api.Repeat, 70, 350, 1)}, []api.Fault{fault(5, 2)}},
		{"a repeat at the end", []api.Sign{post(1, api.Limit, 70, 700, 1), repeat(70, 999, 1), post(5, api.Repeat, 70, 1000, 1)}, []api.Fault{fault(5, 2)}},
		{"ends", []api.Sign{limit, pass, post(5, api.LimitEnd, 0, 300, 1), post(6, api.NoPassEnd, 0, 300, 2)}, nil},
		{"ends of nothing", []api.Sign{post(5, api.LimitEnd, 0, 300, 1), post(6, api.NoPassEnd, 0, 300, 2), post(7, api.EndAll, 0, 300, 1)}, []api.Fault{fault(5, 3), fault(6, 3), fault(7, 3)}},
		{"ends at the beginning", []api.Sign{post(5, api.LimitEnd, 0, 0, 1), post(6, api.NoPassEnd, 0, 0, 2), post(7, api.EndAll, 0, 0, 1)}, []api.Fault{fault(5, 3), fault(6, 3), fault(7, 3)}},
		{"ends of the other topic", []api.Sign{limit, post(6, api.NoPassEnd, 0, 300, 2)}, []api.Fault{fault(6, 3)}},
		{"an end of a limit where none may pass", []api.Sign{pass, post(6, api.LimitEnd, 0, 300, 2)}, []api.Fault{fault(6, 3)}},
		{"the end of a limit and nothing else", []api.Sign{limit, post(7, api.EndAll, 0, 300, 1)}, nil},
		{"the end of a NoPass and nothing else", []api.Sign{pass, post(7, api.EndAll, 0, 300, 1)}, nil},
		{"an end on the post of what it ends", []api.Sign{limit, post(5, api.LimitEnd, 0, 200, 2)}, []api.Fault{fault(5, 3)}},
		{"an end one metre behind", []api.Sign{limit, post(5, api.LimitEnd, 0, 201, 1)}, nil},
		{"an end at the junction", []api.Sign{limit, post(5, api.LimitEnd, 0, 600, 1)}, nil},
		{"an end behind the junction", []api.Sign{limit, post(5, api.LimitEnd, 0, 601, 1)}, []api.Fault{fault(5, 3)}},
		{"an end where a plate ends it", []api.Sign{limit, plate(100, 200, 2), post(5, api.LimitEnd, 0, 300, 1)}, nil},
		{"an end behind where a plate ends it", []api.Sign{limit, plate(100, 200, 2), post(5, api.LimitEnd, 0, 301, 1)}, []api.Fault{fault(5, 3)}},
		{"a second end on the post", []api.Sign{limit, post(5, api.LimitEnd, 0, 300, 1), post(6, api.EndAll, 0, 300, 2)}, nil},
		{"a second end behind it", []api.Sign{limit, post(5, api.LimitEnd, 0, 300, 1), post(6, api.EndAll, 0, 301, 2)}, []api.Fault{fault(6, 3)}},
		{"an end at the end", []api.Sign{post(1, api.Limit, 70, 999, 1), post(5, api.LimitEnd, 0, 1000, 1)}, nil},
		{"starts at the end", []api.Sign{post(9, api.NoPass, 0, 1000, 1), post(8, api.Limit, 70, 1000, 1)}, []api.Fault{fault(8, 4), fault(9, 4)}},
		{"starts at the beginning", []api.Sign{post(9, api.NoPass, 0, 0, 1), post(8, api.Limit, 70, 0, 1)}, nil},
		{"starts downwards", turned(post(9, api.NoPass, 0, 0, 1), post(8, api.Limit, 70, 1000, 1)), []api.Fault{fault(9, 4)}},
		{"a repeat and ends downwards", turned(post(3, api.EndAll, 0, 1000, 1), post(2, api.EndAll, 0, 0, 1), post(1, api.Repeat, 70, 0, 1)), []api.Fault{fault(1, 2), fault(2, 3), fault(3, 3)}},
		{"plates downwards", turned(limit, plate(200, 200, 2), post(4, api.NoPass, 0, 100, 1), post(5, api.Plate, 101, 100, 2)), []api.Fault{fault(5, 1)}},
		{"both directions", append(turned(post(7, api.EndAll, 0, 50, 1)), post(9, api.EndAll, 0, 60, 1), post(5, api.EndAll, 0, 70, 1)), []api.Fault{fault(5, 3), fault(7, 3), fault(9, 3)}},
		{"a warning", []api.Sign{post(1, api.Warning, 1000, 1000, 1), post(2, api.Warning, 0, 0, 1)}, nil},
	} {
		if got, err := rule.Faults(line(), c.signs, 0); !slices.Equal(got, c.want) || err != api.OK {
			t.Errorf("%s: Faults: %v, error %d, not %v", c.what, got, err, c.want)
		}
	}
}

// P7.5: only signs that speak have faults, and are what others stand under.
func TestFaultsAtHours(t *testing.T) {
	limit, plate, end := post(1, api.Limit, 70, 200, 1), post(2, api.Plate, 50, 200, 2), post(3, api.LimitEnd, 0, 240, 1)
	limit.Up, limit.Down = 5, 10
	plate.Covers = []api.Span{span(7, 8)}
	end.Down = 12
	for hour, want := range map[int][]api.Fault{
		4: {fault(2, 1), fault(3, 3)}, 5: nil, 7: nil, 9: nil, 10: {fault(2, 1), fault(3, 3)}, 12: {fault(2, 1)}, maxHour: {fault(2, 1)},
	} {
		if got, err := rule.Faults(line(), []api.Sign{end, plate, limit}, hour); !slices.Equal(got, want) || err != api.OK {
			t.Errorf("Faults at the hour %d: %v, error %d, not %v", hour, got, err, want)
		}
	}
}

// P7.5: Faults are as the second way says; each code comes often.
func TestSomeFaults(t *testing.T) {
	r := rand.New(rand.NewPCG(7, 5))
	var counts [5]int
	for range 6000 {
		l := someLine(r)
		list, hour := someSigns(r, l, 14), tries()[r.IntN(30)]
		want := referenceFaults(l, list, hour)
		for _, f := range want {
			counts[f.Code]++
		}
		if got, err := rule.Faults(l, list, hour); !slices.Equal(got, want) || err != api.OK {
			t.Fatalf("Faults of %v on %v at the hour %d: %v, error %d, not %v", list, l, hour, got, err, want)
		}
	}
	if slices.Min(counts[1:]) < 500 {
		t.Errorf("the codes came %v times", counts[1:])
	}
}
