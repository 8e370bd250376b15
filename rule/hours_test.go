package rule_test

import (
	"math/rand/v2"
	"slices"
	"testing"

	"blazon/api"
	"blazon/rule"
)

// P7.6: Moments, of signs, covers and edicts of both directions, each once.
func TestMoments(t *testing.T) {
	a, b := post(1, api.Limit, 70, 200, 1), post(2, api.Warning, 0, 300, 1)
	a.Up, a.Down, a.Covers = 50, 70, []api.Span{span(60, 65), span(10, 60), span(90, maxHour+1)}
	b.Dir, b.Up, b.Down = -1, maxHour-1, maxHour
	e := edict(1, 50, 100, 200)
	e.Start, e.End = 20, 50
	always, never := post(3, api.Limit, 70, 0, 1), post(4, api.Limit, 70, 0, 1)
	never.Up, never.Covers = maxHour, []api.Span{span(maxHour, maxHour+1)}
	for _, c := range []struct {
		signs  []api.Sign
		edicts []api.Edict
		want   []int
	}{
		{nil, nil, nil},
		{[]api.Sign{always}, nil, []int{0}},
		{nil, []api.Edict{edict(1, 50, 100, 200)}, []int{0}},
		{[]api.Sign{never}, nil, []int{maxHour}},
		{[]api.Sign{b, a}, nil, []int{10, 50, 60, 65, 70, 90, maxHour - 1, maxHour}},
		{[]api.Sign{b, a}, []api.Edict{e}, []int{10, 20, 50, 60, 65, 70, 90, maxHour - 1, maxHour}},
		{nil, []api.Edict{e, edict(2, 50, 100, 200)}, []int{0, 20, 50}},
	} {
		if got, err := rule.Moments(line(), c.signs, c.edicts); !slices.Equal(got, c.want) || err != api.OK {
			t.Errorf("Moments of %v and %v: %v, error %d, not %v", c.signs, c.edicts, got, err, c.want)
		}
	}
}

func told(numbers ...int) []api.Told {
	var all []api.Told
	for i := 0; i < len(numbers); i += 3 {
		all = append(all, api.Told{From: numbers[i], To: numbers[i+1], Value: numbers[i+2]})
	}
	return all
}

// P7.6: History, for all hours, in as few spans as possible.
func TestHistory(t *testing.T) {
	const end = maxHour + 1
	a, b, plate := post(1, api.Limit, 70, 200, 1), post(2, api.Limit, 70, 300, 1), post(3, api.Plate, 100, 200, 2)
	a.Up, a.Down, a.Covers = 50, 80, []api.Span{span(60, 65), span(62, 70), span(0, 20)}
	b.Up, b.Down = 60, 90
	plate.Up, plate.Down = 0, 55
	last := post(4, api.Limit, 30, 0, 1)
	last.Up = maxHour
	list := []api.Sign{b, plate, a}
	for _, c := range []struct {
		signs             []api.Sign
		dir, topic, metre int
		want              []api.Told
	}{
		{nil, 1, 1, 0, told(0, end, 0)},
		{[]api.Sign{post(1, api.NoPass, 0, 0, 1)}, 1, 2, 5, told(0, end, 1)},
		{[]api.Sign{post(1, api.NoPass, 0, 0, 1)}, 1, 1, 5, told(0, end, 0)},
		{[]api.Sign{post(1, api.NoPass, 0, 0, 1)}, -1, 2, 5, told(0, end, 0)},
		{list, 1, 1, 250, told(0, 50, 0, 50, 60, 70, 60, 70, 0, 70, 80, 70, 80, end, 0)},
		{list, 1, 1, 199, told(0, end, 0)},
		// from the hour 55 on the plate is away, and from 60 on the second limit says the same
		{list, 1, 1, 300, told(0, 55, 0, 55, 90, 70, 90, end, 0)},
		{list, 1, 1, 600, told(0, end, 0)},
		{list, 1, 2, 250, told(0, end, 0)},
		{[]api.Sign{last}, 1, 1, 0, told(0, maxHour, 0, maxHour, end, 30)},
		{turned(a), -1, 1, 199, told(0, 50, 0, 50, 60, 70, 60, 70, 0, 70, 80, 70, 80, end, 0)},
		{turned(a), -1, 1, 200, told(0, end, 0)},
	} {
		if got, err := rule.History(line(), c.signs, c.dir, c.topic, c.metre); !slices.Equal(got, c.want) || err != api.OK {
			t.Errorf("History of %v, %d, %d, metre %d: %v, error %d, not %v", c.signs, c.dir, c.topic, c.metre, got, err, c.want)
		}
	}
}

// P7.6: a history of as many signs and covers as there may be.
func TestLongHistory(t *testing.T) {
	var list []api.Sign
	for i := range 100 {
		s := post(i+1, api.Limit, 10+i, 0, 1)
		s.Down = 1000*i + 1000
		for c := range 10 {
			s.Covers = append(s.Covers, span(1000*i+100*c+1, 1000*i+100*c+50))
		}
		list = append(list, s)
	}
	list[99].Down = maxHour + 1
	got, err := rule.History(line(), list, 1, 1, 0)
	// of the signs on a post that speak, that with the greatest number counts
	want := told(0, 99001, 109)
	for c := range 10 {
		from := 99000 + 100*c
		want = append(want, told(from+1, from+50, 0, from+50, from+101, 109)...)
	}
	want[len(want)-1].To = maxHour + 1
	if !slices.Equal(got, want) || err != api.OK {
		t.Errorf("History: %v, error %d, not %v", got, err, want)
	}
}

// P7.6, P7.8: Moments are all of them, and History is what Holds says at each hour.
func TestSomeHistories(t *testing.T) {
	r := rand.New(rand.NewPCG(7, 6))
	for range 3000 {
		l := someLine(r)
		list, laws := someSigns(r, l, 8), someEdicts(r, l, 4)
		if got, err := rule.Moments(l, list, laws); !slices.Equal(got, referenceMoments(list, laws, tries())) || err != api.OK {
			t.Fatalf("Moments of %v and %v: %v, error %d", list, laws, got, err)
		}
		dir, topic, metre := 1-2*r.IntN(2), 1+r.IntN(2), r.IntN(l.Length)
		got, err := rule.History(l, list, dir, topic, metre)
		if err != api.OK || got[0].From != 0 || got[len(got)-1].To != maxHour+1 {
			t.Fatalf("History of %v on %v: %v, error %d", list, l, got, err)
		}
		for i, h := range got {
			if h.From >= h.To || i > 0 && (h.From != got[i-1].To || h.Value == got[i-1].Value) {
				t.Fatalf("History of %v on %v: %v", list, l, got)
			}
			for _, hour := range append(tries(), h.From, h.To-1) {
				want, _ := rule.Holds(l, list, hour, dir, topic, metre)
				if h.From <= hour && hour < h.To && h.Value != want {
					t.Fatalf("History of %v on %v, %d, %d, metre %d: %v, but %d at the hour %d", list, l, dir, topic, metre, got, want, hour)
				}
			}
		}
	}
}

// P7.9: between two neighbouring moments nothing changes.
func TestNothingBetweenMoments(t *testing.T) {
	r := rand.New(rand.NewPCG(7, 9))
	for range 1000 {
		l := someLine(r)
		list, laws := someSigns(r, l, 8), someEdicts(r, l, 4)
		moments, _ := rule.Moments(l, list, laws)
		moments = append(moments, maxHour+1)
		for i, to := range moments {
			from := 0
			if i > 0 {
				from = moments[i-1]
			}
			for _, hour := range []int{from + (to-from)/2, to - 1} {
				if from >= to {
					continue
				}
				gaps, _ := rule.Compare(l, list, laws, from)
				if got, err := rule.Compare(l, list, laws, hour); !slices.Equal(got, gaps) || err != api.OK || !sameAtHours(l, list, laws, from, hour) {
					t.Fatalf("%v and %v on %v change between the hours %d and %d", list, laws, l, from, hour)
				}
			}
		}
	}
}

// sameAtHours reports whether the same holds, and must hold, at two hours.
func sameAtHours(l api.Line, list []api.Sign, laws []api.Edict, a, b int) bool {
	same := true
	for _, dir := range []int{1, -1} {
		for _, topic := range []int{1, 2} {
			h1, _ := rule.Held(l, list, a, dir, topic)
			h2, _ := rule.Held(l, list, b, dir, topic)
			w1, _ := rule.Wanted(l, laws, a, dir, topic)
			w2, _ := rule.Wanted(l, laws, b, dir, topic)
			same = same && slices.Equal(h1, h2) && slices.Equal(w1, w2)
		}
	}
	return same
}
