package sheet_test

import (
	"math"
	"math/rand/v2"
	"slices"
	"strconv"
	"testing"

	"blazon/api"
	"blazon/sheet"
)

// goodRoll is a valid roll with two faults that touch each other.
func goodRoll() api.Roll {
	return api.Roll{Id: 1, Grade: 2, Colour: api.White, Lot: 7, Made: 30, Width: 120, Length: 1000,
		Faults: []api.Span{{From: 10, To: 12}, {From: 12, To: 20}}}
}

// rollWith returns a good roll after a change.
func rollWith(change func(r *api.Roll)) api.Roll {
	r := goodRoll()
	change(&r)
	return r
}

// single returns so many faults of one dot, side by side.
func single(n int) []api.Span {
	var faults []api.Span
	for k := range n {
		faults = append(faults, api.Span{From: k, To: k + 1})
	}
	return faults
}

// invalidRolls returns rolls that are not valid for one reason each.
func invalidRolls() map[string]api.Roll {
	rolls := map[string]api.Roll{"zero": {}}
	fields := map[string]struct {
		field       func(r *api.Roll) *int
		least, most int
	}{
		"Id":     {func(r *api.Roll) *int { return &r.Id }, 1, 1000000000},
		"Grade":  {func(r *api.Roll) *int { return &r.Grade }, 1, 3},
		"Colour": {func(r *api.Roll) *int { return &r.Colour }, api.White, api.Brown},
		"Lot":    {func(r *api.Roll) *int { return &r.Lot }, 1, 1000000000},
		"Made":   {func(r *api.Roll) *int { return &r.Made }, 0, 100000},
		"Width":  {func(r *api.Roll) *int { return &r.Width }, 1, 150},
		"Length": {func(r *api.Roll) *int { return &r.Length }, 1, 6000},
	}
	for name, f := range fields {
		for _, n := range []int{f.least - 1, f.most + 1, math.MinInt, math.MaxInt} {
			rolls[name+" "+strconv.Itoa(n)] = rollWith(func(r *api.Roll) { *f.field(r) = n })
		}
	}
	for name, faults := range map[string][]api.Span{
		"an empty fault":           {{From: 5, To: 5}},
		"an empty fault at 0":      {{From: 0, To: 0}},
		"a fault backwards":        {{From: 6, To: 5}},
		"a fault in front":         {{From: -1, To: 5}},
		"a fault behind":           {{From: 999, To: 1001}},
		"a fault outside":          {{From: 1000, To: 1001}},
		"faults that overlap":      {{From: 5, To: 8}, {From: 7, To: 9}},
		"faults in wrong order":    {{From: 5, To: 8}, {From: 1, To: 2}},
		"a fault twice":            {{From: 5, To: 8}, {From: 5, To: 8}},
		"an empty fault at an end": {{From: 5, To: 8}, {From: 8, To: 8}},
		"a huge fault":             {{From: math.MinInt, To: math.MaxInt}},
		"17 faults":                single(17),
	} {
		rolls[name] = rollWith(func(r *api.Roll) { r.Faults = faults })
	}
	return rolls
}

// P2.2: ValidRoll.
func TestValidRoll(t *testing.T) {
	for name, r := range invalidRolls() {
		if sheet.ValidRoll(r) {
			t.Errorf("a roll with %s is valid: %v", name, r)
		}
	}
	for name, r := range map[string]api.Roll{
		"good":           goodRoll(),
		"least":          {Id: 1, Grade: 1, Colour: api.White, Lot: 1, Made: 0, Width: 1, Length: 1},
		"greatest":       {Id: 1000000000, Grade: 3, Colour: api.Brown, Lot: 1000000000, Made: 100000, Width: 150, Length: 6000},
		"no faults":      rollWith(func(r *api.Roll) { r.Faults = []api.Span{} }),
		"a whole fault":  rollWith(func(r *api.Roll) { r.Faults = []api.Span{{From: 0, To: 1000}} }),
		"16 faults":      rollWith(func(r *api.Roll) { r.Faults = single(16) }),
		"at both ends":   rollWith(func(r *api.Roll) { r.Faults = []api.Span{{From: 0, To: 1}, {From: 999, To: 1000}} }),
		"hidden behind":  rollWith(func(r *api.Roll) { r.Faults = append(single(16), api.Span{})[:16] }),
		"each grade":     rollWith(func(r *api.Roll) { r.Grade = 1 }),
		"another colour": rollWith(func(r *api.Roll) { r.Colour = api.Green }),
	} {
		if !sheet.ValidRoll(r) {
			t.Errorf("%s: the roll is not valid: %v", name, r)
		}
	}
}

// invalidRules returns rules that are not valid for one reason each.
func invalidRules() []api.Shelf {
	good := api.Shelf{MinWidth: 20, MinLength: 5, Life: [3]int{10, 20, 30}}
	rules := []api.Shelf{{}}
	for _, n := range []int{0, -1, 1001, math.MinInt, math.MaxInt} {
		width, length := good, good
		width.MinWidth, length.MinLength = n, n
		rules = append(rules, width, length)
	}
	for grade := range 3 {
		for _, n := range []int{-1, 100001, math.MinInt, math.MaxInt} {
			life := good
			life.Life[grade] = n
			rules = append(rules, life)
		}
	}
	return rules
}

// P2.2: ValidRules.
func TestValidRules(t *testing.T) {
	for _, r := range invalidRules() {
		if sheet.ValidRules(r) {
			t.Errorf("rules are valid: %v", r)
		}
	}
	for _, r := range []api.Shelf{
		{MinWidth: 1, MinLength: 1},
		{MinWidth: 1000, MinLength: 1000, Life: [3]int{100000, 100000, 100000}},
		{MinWidth: 20, MinLength: 5, Life: [3]int{0, 1, 2}},
	} {
		if !sheet.ValidRules(r) {
			t.Errorf("rules are not valid: %v", r)
		}
	}
}

// P2.2: Clear, with the chapter's example and spans of all kinds.
func TestClear(t *testing.T) {
	for _, c := range []struct {
		length int
		faults []api.Span
		need   int
		p      int
		ok     bool
	}{
		{100, []api.Span{{From: 30, To: 32}}, 50, 32, true},
		{100, []api.Span{{From: 30, To: 32}}, 70, 0, false},
		{100, []api.Span{{From: 30, To: 32}}, 30, 0, true},
		{100, []api.Span{{From: 30, To: 32}}, 31, 32, true},
		{100, []api.Span{{From: 30, To: 32}}, 68, 32, true},
		{100, []api.Span{{From: 30, To: 32}}, 69, 0, false},
		{100, nil, 100, 0, true},
		{100, nil, 101, 0, false},
		{100, nil, 0, 0, false},
		{100, nil, -1, 0, false},
		{0, nil, 1, 0, false},
		{0, nil, 0, 0, false},
		{-1, nil, 1, 0, false},
		{-1, nil, -1, 0, false},
		{1, nil, 1, 0, true},
		// empty spans, and spans backwards, have no places
		{10, []api.Span{{From: 5, To: 5}}, 10, 0, true},
		{10, []api.Span{{From: 7, To: 3}}, 10, 0, true},
		{10, []api.Span{{From: 0, To: 2}, {From: 9, To: 4}, {From: 3, To: 3}}, 8, 2, true},
		// in any order, one over the other
		{20, []api.Span{{From: 12, To: 14}, {From: 2, To: 6}}, 6, 6, true},
		{20, []api.Span{{From: 3, To: 4}, {From: 1, To: 10}, {From: 2, To: 5}}, 5, 10, true},
		{20, []api.Span{{From: 5, To: 6}, {From: 6, To: 8}}, 6, 8, true},
		{20, []api.Span{{From: 5, To: 7}, {From: 5, To: 7}}, 13, 7, true},
		// in front of the length, behind it, and over its ends
		{20, []api.Span{{From: -5, To: 3}}, 17, 3, true},
		{20, []api.Span{{From: -5, To: 0}}, 20, 0, true},
		{20, []api.Span{{From: 20, To: 30}}, 20, 0, true},
		{20, []api.Span{{From: 19, To: 30}}, 20, 0, false},
		{20, []api.Span{{From: -5, To: 30}}, 1, 0, false},
		{20, []api.Span{{From: 25, To: 30}, {From: 0, To: 1}}, 19, 1, true},
		// the ends of an int
		{math.MaxInt, nil, math.MaxInt, 0, true},
		{math.MaxInt, []api.Span{{From: 0, To: 1}}, math.MaxInt, 0, false},
		{math.MaxInt, []api.Span{{From: 0, To: 1}}, math.MaxInt - 1, 1, true},
		{math.MaxInt, []api.Span{{From: math.MinInt, To: 5}, {From: math.MaxInt, To: math.MinInt}}, 9, 5, true},
		{100, []api.Span{{From: math.MinInt, To: 5}, {From: math.MinInt, To: 7}, {From: math.MinInt + 1, To: 9}}, 1, 9, true},
		{math.MaxInt, []api.Span{{From: 7, To: math.MaxInt}}, 7, 0, true},
		{math.MaxInt, []api.Span{{From: 7, To: math.MaxInt}}, 8, 0, false},
		{10, []api.Span{{From: math.MinInt, To: math.MaxInt}}, 1, 0, false},
		{10, []api.Span{{From: 0, To: math.MaxInt}, {From: math.MinInt, To: 4}}, 1, 0, false},
		{10, nil, math.MaxInt, 0, false},
		{math.MinInt, nil, math.MaxInt, 0, false},
		{math.MinInt, []api.Span{{From: 0, To: 5}}, 1, 0, false},
		{math.MaxInt, nil, math.MinInt, 0, false},
	} {
		if p, ok := sheet.Clear(c.length, c.faults, c.need); p != c.p || ok != c.ok {
			t.Errorf("Clear(%d, %v, %d): %d, %v", c.length, c.faults, c.need, p, ok)
		}
	}
}

// clearByDots looks at each dot of each place that would do.
func clearByDots(length int, faults []api.Span, need int) (int, bool) {
	if need < 1 {
		return 0, false
	}
	for p := 0; p+need <= length; p++ {
		free := true
		for d := p; d < p+need; d++ {
			free = free && !slices.ContainsFunc(faults, func(f api.Span) bool { return f.From <= d && d < f.To })
		}
		if free {
			return p, true
		}
	}
	return 0, false
}

// P2.2: Clear is the least offset; R4: it does not change the faults.
func TestClearByDots(t *testing.T) {
	r := rand.New(rand.NewPCG(5, 6))
	for range 20000 {
		length, need := r.IntN(26)-1, r.IntN(14)-1
		var faults []api.Span
		for range r.IntN(6) {
			from := r.IntN(34) - 5
			faults = append(faults, api.Span{From: from, To: from + r.IntN(6) - 1})
		}
		kept := slices.Clone(faults)
		p, ok := sheet.Clear(length, faults, need)
		if q, is := clearByDots(length, faults, need); p != q || ok != is {
			t.Fatalf("Clear(%d, %v, %d): %d, %v instead of %d, %v", length, faults, need, p, ok, q, is)
		}
		if !slices.Equal(faults, kept) {
			t.Fatalf("Clear changed %v to %v", kept, faults)
		}
	}
}
