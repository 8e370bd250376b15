package rule_test

import (
	"math/rand/v2"
	"slices"
	"testing"

	"blazon/api"
	"blazon/rule"
)

func held(numbers ...int) []api.Held {
	var all []api.Held
	for i := 0; i < len(numbers); i += 3 {
		all = append(all, api.Held{From: numbers[i], To: numbers[i+1], Value: numbers[i+2]})
	}
	return all
}

// turned returns signs for the other direction, at the same chainages.
func turned(list ...api.Sign) []api.Sign {
	list = slices.Clone(list)
	for i := range list {
		list[i].Dir = -list[i].Dir
	}
	return list
}

// P7.3: Held and Holds, with the chapter's examples, upwards on the line with a junction at 600.
func TestHeld(t *testing.T) {
	limit, plate := post(1, api.Limit, 70, 200, 1), post(2, api.Plate, 150, 200, 2)
	for _, c := range []struct {
		what        string
		signs       []api.Sign
		limit, pass []api.Held
	}{
		{"nothing", nil, nil, nil},
		{"a limit", []api.Sign{limit}, held(200, 600, 70), nil},
		{"with a plate", []api.Sign{limit, plate}, held(200, 350, 70), nil},
		{"a plate up to the junction", []api.Sign{limit, post(2, api.Plate, 400, 200, 2)}, held(200, 600, 70), nil},
		{"a plate beyond the junction", []api.Sign{limit, post(2, api.Plate, 100000, 200, 2)}, held(200, 600, 70), nil},
		{"a plate of one metre", []api.Sign{limit, post(2, api.Plate, 1, 200, 9)}, held(200, 201, 70), nil},
		{"a plate above", []api.Sign{post(1, api.Limit, 70, 200, 2), post(2, api.Plate, 150, 200, 1)}, held(200, 600, 70), nil},
		{"the same rank, the plate's number is greater", []api.Sign{post(2, api.Plate, 150, 200, 1), limit}, held(200, 350, 70), nil},
		{"the same rank, the plate's number is less", []api.Sign{post(5, api.Limit, 70, 200, 1), post(2, api.Plate, 150, 200, 1)}, held(200, 600, 70), nil},
		{"a plate elsewhere", []api.Sign{limit, post(2, api.Plate, 150, 201, 2)}, held(200, 600, 70), nil},
		{"a second plate", []api.Sign{limit, plate, post(3, api.Plate, 10, 200, 3)}, held(200, 350, 70), nil},
		{"a repeat between", []api.Sign{limit, post(3, api.Repeat, 70, 200, 2), post(2, api.Plate, 150, 200, 3)}, held(200, 600, 70), nil},
		{"a warning between", []api.Sign{limit, post(3, api.Warning, 0, 200, 2), post(2, api.Plate, 150, 200, 3)}, held(200, 600, 70), nil},
		{"a plate of the other topic", []api.Sign{limit, post(3, api.NoPass, 0, 200, 2), post(2, api.Plate, 150, 200, 3)}, held(200, 600, 70), held(200, 350, 1)},
		{"a plate of an end", []api.Sign{limit, post(3, api.LimitEnd, 0, 300, 1), post(2, api.Plate, 50, 300, 2)}, held(200, 300, 70), nil},
		{"at the junction", []api.Sign{post(1, api.Limit, 70, 600, 1)}, held(600, 1000, 70), nil},
		{"behind it", []api.Sign{post(1, api.Limit, 70, 601, 1)}, held(601, 1000, 70), nil},
		{"at the beginning", []api.Sign{post(1, api.Limit, 10, 0, 1)}, held(0, 600, 10), nil},
		{"on the last metre", []api.Sign{post(1, api.Limit, 200, 999, 1)}, held(999, 1000, 200), nil},
		{"at the end", []api.Sign{post(1, api.Limit, 70, 1000, 1)}, nil, nil},
		{"ends", []api.Sign{limit, post(2, api.LimitEnd, 0, 300, 1), post(3, api.NoPass, 0, 250, 1), post(4, api.NoPassEnd, 0, 400, 1)}, held(200, 300, 70), held(250, 400, 1)},
		{"the end of all", []api.Sign{limit, post(3, api.NoPass, 0, 250, 1), post(4, api.EndAll, 0, 400, 1)}, held(200, 400, 70), held(250, 400, 1)},
		{"an end of nothing", []api.Sign{post(4, api.EndAll, 0, 100, 1), limit}, held(200, 600, 70), nil},
		{"the other topic's end", []api.Sign{limit, post(4, api.NoPassEnd, 0, 300, 1)}, held(200, 600, 70), nil},
		{"an end below", []api.Sign{limit, post(4, api.LimitEnd, 0, 200, 2)}, nil, nil},
		{"an end above", []api.Sign{post(1, api.Limit, 70, 200, 2), post(4, api.LimitEnd, 0, 200, 1)}, held(200, 600, 70), nil},
		{"another value", []api.Sign{limit, post(2, api.Limit, 50, 300, 1)}, held(200, 300, 70, 300, 600, 50), nil},
		{"the same value again", []api.Sign{limit, post(2, api.Limit, 70, 600, 1)}, held(200, 1000, 70), nil},
		{"what an overlaid one held does not come back", []api.Sign{limit, post(2, api.Limit, 50, 300, 1), post(3, api.Plate, 100, 300, 2)}, held(200, 300, 70, 300, 400, 50), nil},
		{"a plate that a new start ends", []api.Sign{limit, plate, post(3, api.Limit, 70, 300, 1)}, held(200, 600, 70), nil},
		{"repeats and warnings alone", []api.Sign{post(1, api.Repeat, 70, 200, 1), post(2, api.Warning, 70, 300, 1), post(3, api.Plate, 70, 300, 2)}, nil, nil},
		{"the other direction", turned(limit, plate), nil, nil},
	} {
		for topic, want := range [][]api.Held{c.limit, c.pass} {
			got, err := rule.Held(line(), c.signs, 0, 1, topic+1)
			if !slices.Equal(got, want) || err != api.OK {
				t.Errorf("%s: Held of the topic %d: %v, error %d, not %v", c.what, topic+1, got, err, want)
			}
		}
	}
}

// P7.3: downwards, metres are met from the end of the line.
func TestHeldDownwards(t *testing.T) {
	limit := post(1, api.Limit, 70, 800, 1)
	for _, c := range []struct {
		signs []api.Sign
		want  []api.Held
	}{
		{turned(limit), held(600, 800, 70)},
		{turned(limit, post(2, api.Plate, 150, 800, 2)), held(650, 800, 70)},
		{turned(limit, post(2, api.LimitEnd, 0, 700, 1)), held(700, 800, 70)},
		{turned(post(1, api.Limit, 70, 600, 1)), held(0, 600, 70)},
		{turned(post(1, api.Limit, 70, 1000, 1)), held(600, 1000, 70)},
		{turned(post(1, api.Limit, 70, 1, 1)), held(0, 1, 70)},
		{turned(post(1, api.Limit, 70, 0, 1)), nil},
		{turned(limit, post(2, api.Limit, 50, 700, 1)), held(600, 700, 50, 700, 800, 70)},
		{[]api.Sign{limit}, nil},
	} {
		if got, err := rule.Held(line(), c.signs, 0, -1, 1); !slices.Equal(got, c.want) || err != api.OK {
			t.Errorf("Held of %v: %v, error %d, not %v", c.signs, got, err, c.want)
		}
	}
}

// P7.3: Holds on single metres, in both directions, and at the hours at which signs begin and end.
func TestHolds(t *testing.T) {
	limit := post(1, api.Limit, 70, 200, 1)
	limit.Up, limit.Down, limit.Covers = 5, 10, []api.Span{span(7, 8)}
	plate := post(2, api.Plate, 150, 200, 2)
	plate.Down = 9
	list := append(turned(post(3, api.NoPass, 0, 800, 1)), limit, plate)
	for _, c := range [][5]int{ // hour, direction, topic, metre, value
		{5, 1, 1, 199, 0}, {5, 1, 1, 200, 70}, {5, 1, 1, 349, 70}, {5, 1, 1, 350, 0}, {4, 1, 1, 200, 0}, {10, 1, 1, 200, 0},
		{7, 1, 1, 200, 0}, {8, 1, 1, 200, 70}, {8, 1, 1, 350, 0}, {9, 1, 1, 350, 70}, {9, 1, 1, 599, 70}, {9, 1, 1, 600, 0}, {5, 1, 2, 200, 0},
		{5, -1, 2, 800, 0}, {5, -1, 2, 799, 1}, {5, -1, 2, 600, 1}, {5, -1, 2, 599, 0}, {5, -1, 1, 799, 0}, {maxHour, -1, 2, 799, 1},
	} {
		if got, err := rule.Holds(line(), list, c[0], c[1], c[2], c[3]); got != c[4] || err != api.OK {
			t.Errorf("Holds at %v: %d, error %d", c, got, err)
		}
	}
}

// P7.3: Must and Wanted; of edicts for one metre, that with the greatest number counts.
func TestWanted(t *testing.T) {
	other := edict(9, 100, 0, 1000)
	other.Dir = -1
	pass := edict(8, 1, 0, 500)
	pass.Topic = 2
	timed := edict(7, 30, 250, 260)
	timed.Start, timed.End = 5, 10
	list := []api.Edict{edict(3, 70, 200, 600), edict(1, 50, 100, 300), timed, edict(4, 70, 600, 601), edict(2, 120, 590, 1000), other, pass}
	for _, c := range []struct {
		hour, dir, topic int
		want             []api.Held
	}{
		{0, 1, 1, held(100, 200, 50, 200, 601, 70, 601, 1000, 120)},
		{4, 1, 1, held(100, 200, 50, 200, 601, 70, 601, 1000, 120)},
		{5, 1, 1, held(100, 200, 50, 200, 250, 70, 250, 260, 30, 260, 601, 70, 601, 1000, 120)},
		{9, 1, 1, held(100, 200, 50, 200, 250, 70, 250, 260, 30, 260, 601, 70, 601, 1000, 120)},
		{10, 1, 1, held(100, 200, 50, 200, 601, 70, 601, 1000, 120)},
		{0, -1, 1, held(0, 1000, 100)},
		{0, 1, 2, held(0, 500, 1)},
		{0, -1, 2, nil},
	} {
		got, err := rule.Wanted(line(), list, c.hour, c.dir, c.topic)
		if !slices.Equal(got, c.want) || err != api.OK {
			t.Errorf("Wanted at %v: %v, error %d", c, got, err)
		}
		for m := range 1000 {
			want := 0
			for _, h := range c.want {
				if h.From <= m && m < h.To {
					want = h.Value
				}
			}
			if got, err := rule.Must(line(), list, c.hour, c.dir, c.topic, m); got != want || err != api.OK {
				t.Fatalf("Must at the hour %d, direction %d, topic %d, metre %d: %d, error %d, not %d", c.hour, c.dir, c.topic, m, got, err, want)
			}
		}
	}
}

// P7.4: Compare, in the order of topics, directions and chainages.
func TestCompare(t *testing.T) {
	down := edict(2, 90, 0, 700)
	down.Dir = -1
	pass := edict(3, 1, 0, 1000)
	pass.Topic = 2
	list := append(turned(post(4, api.NoPass, 0, 900, 1), post(6, api.Limit, 90, 900, 1)), post(1, api.Limit, 70, 200, 1), post(2, api.Limit, 50, 600, 1), post(3, api.NoPass, 0, 0, 1))
	for _, c := range []struct {
		signs  []api.Sign
		edicts []api.Edict
		want   []api.Gap
	}{
		{nil, nil, nil},
		{list, []api.Edict{edict(1, 50, 100, 300), down, pass}, []api.Gap{
			{Topic: 1, Dir: 1, From: 100, To: 200, Should: 50}, {Topic: 1, Dir: 1, From: 200, To: 300, Has: 70, Should: 50},
			{Topic: 1, Dir: 1, From: 300, To: 600, Has: 70}, {Topic: 1, Dir: 1, From: 600, To: 1000, Has: 50},
			{Topic: 1, Dir: -1, From: 0, To: 600, Should: 90}, {Topic: 1, Dir: -1, From: 700, To: 900, Has: 90},
			{Topic: 2, Dir: 1, From: 600, To: 1000, Should: 1}, {Topic: 2, Dir: -1, From: 600, To: 900, Has: 1},
		}},
		// one gap, although edicts and signs change on it
		{[]api.Sign{post(1, api.Limit, 70, 200, 1), post(2, api.Limit, 70, 300, 1)}, []api.Edict{edict(1, 50, 100, 400), edict(2, 50, 250, 600)}, []api.Gap{
			{Topic: 1, Dir: 1, From: 100, To: 200, Should: 50}, {Topic: 1, Dir: 1, From: 200, To: 600, Has: 70, Should: 50},
		}},
		{[]api.Sign{post(1, api.Limit, 70, 0, 1), post(2, api.Limit, 70, 600, 1)}, []api.Edict{edict(1, 70, 0, 1000)}, nil},
	} {
		if got, err := rule.Compare(line(), c.signs, c.edicts, 0); !slices.Equal(got, c.want) || err != api.OK {
			t.Errorf("Compare of %v and %v: %v, error %d, not %v", c.signs, c.edicts, got, err, c.want)
		}
	}
}

// P7.3, P7.4, P7.8: Holds, Held, Must, Wanted and Compare are as a car finds, and as each other.
func TestSomeCourses(t *testing.T) {
	r := rand.New(rand.NewPCG(7, 3))
	gapped := 0
	for range 6000 {
		l := someLine(r)
		list, laws, hour := someSigns(r, l, 12), someEdicts(r, l, 6), tries()[r.IntN(30)]
		for _, dir := range []int{1, -1} {
			for _, topic := range []int{1, 2} {
				has, should := referenceHeld(l, list, hour, dir, topic), referenceWanted(l, laws, hour, dir, topic)
				if got, err := rule.Held(l, list, hour, dir, topic); !slices.Equal(got, referenceStretches(has)) || err != api.OK {
					t.Fatalf("Held of %v on %v at %d, %d, %d: %v, error %d, not %v", list, l, hour, dir, topic, got, err, has)
				}
				if got, err := rule.Wanted(l, laws, hour, dir, topic); !slices.Equal(got, referenceStretches(should)) || err != api.OK {
					t.Fatalf("Wanted of %v on %v at %d, %d, %d: %v, error %d, not %v", laws, l, hour, dir, topic, got, err, should)
				}
				for m := range l.Length {
					if got, err := rule.Holds(l, list, hour, dir, topic, m); got != has[m] || err != api.OK {
						t.Fatalf("Holds of %v on %v at %d, %d, %d, metre %d: %d, error %d, not %v", list, l, hour, dir, topic, m, got, err, has)
					}
					if got, err := rule.Must(l, laws, hour, dir, topic, m); got != should[m] || err != api.OK {
						t.Fatalf("Must of %v on %v at %d, %d, %d, metre %d: %d, error %d, not %v", laws, l, hour, dir, topic, m, got, err, should)
					}
				}
			}
		}
		want := referenceGaps(l, list, laws, hour)
		gapped += min(len(want), 1)
		if got, err := rule.Compare(l, list, laws, hour); !slices.Equal(got, want) || err != api.OK {
			t.Fatalf("Compare of %v and %v on %v at the hour %d: %v, error %d, not %v", list, laws, l, hour, got, err, want)
		}
	}
	if gapped < 3000 {
		t.Errorf("only %d times there were gaps", gapped)
	}
}

// mirrored returns a line with its signs and edicts as they are seen from its other end.
func mirrored(l api.Line, list []api.Sign, laws []api.Edict) (api.Line, []api.Sign, []api.Edict) {
	m := api.Line{Length: l.Length}
	for _, j := range slices.Backward(l.Junctions) {
		m.Junctions = append(m.Junctions, l.Length-j)
	}
	list, laws = turned(list...), slices.Clone(laws)
	for i := range list {
		list[i].Chain = l.Length - list[i].Chain
	}
	for i, e := range laws {
		laws[i].From, laws[i].To, laws[i].Dir = l.Length-e.To, l.Length-e.From, -e.Dir
	}
	return m, list, laws
}

// P7.11: from the other end the same holds, must hold, is told and has faults.
func TestMirrors(t *testing.T) {
	r := rand.New(rand.NewPCG(7, 11))
	for range 2000 {
		l := someLine(r)
		list, laws, hour := someSigns(r, l, 12), someEdicts(r, l, 6), tries()[r.IntN(30)]
		back, backList, backLaws := mirrored(l, list, laws)
		for _, dir := range []int{1, -1} {
			row, _ := rule.Row(l, list, hour, dir)
			if got, err := rule.Row(back, backList, hour, -dir); !slices.Equal(got, row) || err != api.OK {
				t.Fatalf("Row of %v on %v: %v, mirrored %v, error %d", list, l, row, got, err)
			}
			for _, topic := range []int{1, 2} {
				for m := range l.Length {
					h1, _ := rule.Holds(l, list, hour, dir, topic, m)
					h2, e1 := rule.Holds(back, backList, hour, -dir, topic, l.Length-1-m)
					m1, _ := rule.Must(l, laws, hour, dir, topic, m)
					m2, e2 := rule.Must(back, backLaws, hour, -dir, topic, l.Length-1-m)
					if h1 != h2 || m1 != m2 || e1 != api.OK || e2 != api.OK {
						t.Fatalf("%v, %v on %v, metre %d: %d and %d, %d and %d, errors %d, %d", list, laws, l, m, h1, h2, m1, m2, e1, e2)
					}
				}
				told, _ := rule.History(l, list, dir, topic, 0)
				if got, err := rule.History(back, backList, -dir, topic, l.Length-1); !slices.Equal(got, told) || err != api.OK {
					t.Fatalf("History of %v on %v: %v, mirrored %v, error %d", list, l, told, got, err)
				}
			}
		}
		faults, _ := rule.Faults(l, list, hour)
		if got, err := rule.Faults(back, backList, hour); !slices.Equal(got, faults) || err != api.OK {
			t.Fatalf("Faults of %v on %v: %v, mirrored %v, error %d", list, l, faults, got, err)
		}
	}
}

// sameAtHour reports whether two lists of signs have the same rows and faults, and make the same hold, at an hour.
func sameAtHour(l api.Line, a, b []api.Sign, hour int) bool {
	same := true
	for _, dir := range []int{1, -1} {
		r1, _ := rule.Row(l, a, hour, dir)
		r2, err := rule.Row(l, b, hour, dir)
		same = same && slices.Equal(r1, r2) && err == api.OK
		same = same && sameHeld(l, a, b, hour, dir)
	}
	f1, _ := rule.Faults(l, a, hour)
	f2, err := rule.Faults(l, b, hour)
	return same && slices.Equal(f1, f2) && err == api.OK
}

func sameHeld(l api.Line, a, b []api.Sign, hour, dir int) bool {
	same := true
	for _, topic := range []int{1, 2} {
		h1, e1 := rule.Held(l, a, hour, dir, topic)
		h2, e2 := rule.Held(l, b, hour, dir, topic)
		same = same && slices.Equal(h1, h2) && e1 == api.OK && e2 == api.OK
	}
	return same
}

// P7.12: a sign that does not speak plays no part, and a cover over all its hours takes it away.
func TestSilence(t *testing.T) {
	r := rand.New(rand.NewPCG(7, 12))
	for range 3000 {
		l := someLine(r)
		list, hour := someSigns(r, l, 12), tries()[r.IntN(30)]
		spoken := slices.DeleteFunc(slices.Clone(list), func(s api.Sign) bool { return !rule.Speaks(s, hour) })
		if !sameAtHour(l, list, spoken, hour) {
			t.Fatalf("%v on %v at the hour %d is not as %v", list, l, hour, spoken)
		}
		if len(list) == 0 {
			continue
		}
		i := r.IntN(len(list))
		covered, without := slices.Clone(list), slices.Delete(slices.Clone(list), i, i+1)
		covered[i].Covers = append(slices.Clone(list[i].Covers), span(list[i].Up, list[i].Down))
		for _, h := range tries() {
			if !sameAtHour(l, covered, without, h) {
				t.Fatalf("%v on %v at the hour %d is not as %v", covered, l, h, without)
			}
		}
		for _, dir := range []int{1, -1} {
			h1, _ := rule.History(l, covered, dir, 1, 0)
			h2, err := rule.History(l, without, dir, 1, 0)
			if !slices.Equal(h1, h2) || err != api.OK {
				t.Fatalf("History of %v on %v: %v, of %v: %v, error %d", covered, l, h1, without, h2, err)
			}
		}
	}
}

// P7.12: a Warning or Repeat changes what holds only where it stands between a start and its plate: there the plate is none.
func TestWarningsAndRepeats(t *testing.T) {
	r := rand.New(rand.NewPCG(7, 121))
	between := 0
	for range 6000 {
		l := someLine(r)
		list, hour := someSigns(r, l, 12), tries()[r.IntN(30)]
		added := api.Sign{Number: 99, Kind: api.Warning, Chain: upTo(r, 0, l.Length), Dir: 1 - 2*r.IntN(2), Rank: upTo(r, 1, 4), Up: hour, Down: hour + 1}
		before := referenceRow(l, list, hour, added.Dir)
		if plate := slices.IndexFunc(before, func(s api.Sign) bool { return s.Kind == api.Plate }); plate > 0 && r.IntN(2) == 0 {
			// its number is the greatest one, so that it stands behind this sign
			added.Chain, added.Rank = before[plate-1].Chain, before[plate-1].Rank
		}
		if r.IntN(2) == 0 {
			added.Kind, added.Value = api.Repeat, 70
		}
		more, less := append(slices.Clone(list), added), slices.Clone(list)
		row := referenceRow(l, more, hour, added.Dir)
		i := slices.IndexFunc(row, func(s api.Sign) bool { return s.Number == 99 })
		if i > 0 && i+1 < len(row) && row[i+1].Kind == api.Plate && row[i-1].Chain == added.Chain && row[i+1].Chain == added.Chain {
			between++
			less = slices.DeleteFunc(less, func(s api.Sign) bool { return s.Number == row[i+1].Number })
			// the plate that is taken away may not let the next one come up
			if i+2 < len(row) && row[i+2].Kind == api.Plate {
				continue
			}
		}
		if !sameHeld(l, more, less, hour, added.Dir) {
			t.Fatalf("%v on %v at the hour %d is not as %v", more, l, hour, less)
		}
	}
	if between < 100 {
		t.Errorf("only %d times it stood before a plate", between)
	}
}
