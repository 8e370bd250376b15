package works_test

import (
	"fmt"
	"math/rand/v2"
	"slices"
	"testing"

	"blazon/api"
	"blazon/book"
	"blazon/light"
	"blazon/works"
)

// P10.7: Recall names the signs that are hung or covered, and changes nothing.
func TestRecall(t *testing.T) {
	w := fresh(t, whiteRoll, "roll 2 2 1 8 3 60 1200", roundType, "make 5 1 10")
	do(t, w, "scrap 1", "scrap 2", "scrap 3", "roll 10 2 1 8 3 60 1200", "make 5 7 10")
	do(t, w, "hang 1 9 1200 11", "hang 8 9 1 1", "hang 7 9 1 1", "hang 6 9 1 1", "hang 5 9 1 1", "hang 2 9 1 1")
	do(t, w, "cover 6", "cover 7", "down 7", "down 5")
	before := viewOf(w)
	for _, c := range []struct {
		lot  int
		want []int
		err  api.Errno
	}{
		{8, []int{2, 6, 8}, api.OK},
		{7, []int{1}, api.OK},
		{9, nil, api.OK},
		{1, nil, api.OK},
		{1000000000, nil, api.OK},
		{0, nil, api.ErrArg},
		{-1, nil, api.ErrArg},
		{1000000001, nil, api.ErrArg},
	} {
		if l, err := w.Recall(c.lot); !slices.Equal(l, c.want) || err != c.err {
			t.Errorf("Recall of %d: %v, error %d, not %v, %d", c.lot, l, err, c.want, c.err)
		}
	}
	same(t, "behind Recall", viewOf(w), before)
	answers(t, w, "recall 8", "2 3 4 5 6 7 8")
	if l, err := w.Recall(8); !slices.Equal(l, []int{2, 6, 8}) || err != api.OK {
		t.Errorf("Recall behind the line: %v, error %d", l, err)
	}
}

// P10.10: the signs that Recall names are the hung and covered ones of which a piece traces to a roll of the lot.
func TestRecallTraces(t *testing.T) {
	named := 0
	for seed := range uint64(60) {
		c := setups()[seed%4]
		a := newAuthor(200+seed, c)
		w := open(t, c, book.NewDisk())
		lots := map[int]int{} // of the rolls that were received
		for range 150 {
			line := a.line(t)
			a.m, _, _, _ = a.m.do(line)
			var id, grade, colour, lot int
			if _, err := w.Do(line); err != api.OK {
				continue
			}
			if n, _ := fmt.Sscanf(line, "roll %d %d %d %d", &id, &grade, &colour, &lot); n == 4 {
				lots[id] = lot
			}
		}
		store := w.Shelf()
		for lot := 1; lot <= 7; lot++ {
			var want []int
			for _, s := range w.Signs() {
				traces := func(piece int) bool {
					l, err := store.Trace(piece)
					return err == api.OK && lots[l[len(l)-1]] == lot
				}
				if (s.State == api.StateHung || s.State == api.StateCovered) && slices.ContainsFunc(s.Pieces, traces) {
					want = append(want, s.Number)
				}
			}
			l, err := w.Recall(lot)
			if !slices.Equal(l, want) || err != api.OK {
				t.Errorf("seed %d: Recall of %d: %v, error %d, not %v", seed, lot, l, err, want)
			}
			named += len(l)
		}
	}
	if named < 100 {
		t.Errorf("Recall names %d signs", named)
	}
}

// lit returns works with signs that hang and are measured: of a new one by one measure, of the last one by more than light.Due takes.
func lit(t *testing.T) *works.Works {
	t.Helper()
	w := fresh(t, "roll 1 2 1 7 0 120 6000", "roll 2 2 1 7 0 120 6000", roundType, "make 5 10 10")
	for n := 1; n <= 9; n++ {
		do(t, w, fmt.Sprintf("hang %d %d %d 11", n, n*100, n*7))
		if n != 3 {
			do(t, w, fmt.Sprintf("light %d %d %d", n, 200+n, 20+n))
		}
	}
	do(t, w, "light 4 205 3000", "light 4 251 3001", "cover 5", "cover 6", "down 6", "cover 7", "hang 7 1000000 10000000 99")
	do(t, w, "light 8 300 99000", "light 8 90 99001")
	for day := 100; day < 160; day++ {
		do(t, w, fmt.Sprintf("light 9 %d %d", 400-day, day))
	}
	return w
}

// referenceDue looks at all days for one on which a sign is below least.
func referenceDue(a api.Ageing, s api.Made, least, crew, lead int) (api.Job, bool) {
	last := s.Measures[len(s.Measures)-1]
	for day := last.Day; day <= api.MaxDay; day++ {
		r, _ := light.Aged(last.R, a.Keep[s.Number%4], (day-last.Day)/365)
		if r < least {
			j := api.Job{Number: s.Number, Road: s.Road, Chain: s.Chain, Crew: crew, Dry: true, Last: max(day-1, last.Day)}
			j.First = max(j.Last-lead, 0)
			return j, true
		}
	}
	return api.Job{}, false
}

// P10.7 and P10.15: the jobs that Due returns, with those of a second way that looks at all days.
func TestDue(t *testing.T) {
	w := lit(t)
	r := rand.New(rand.NewPCG(5, 6))
	most := 0
	for range 300 {
		day, least, crew, lead := r.IntN(4000), 80+r.IntN(250), 1+r.IntN(9), r.IntN(1000)
		if r.IntN(5) == 0 {
			day, least = r.IntN(api.MaxDay+1), r.IntN(100)
		}
		var want []api.Job
		for _, s := range w.Signs() {
			if s.State != api.StateHung || len(s.Measures) == 0 {
				continue
			}
			if j, ok := referenceDue(plain().Ageing, s, least, crew, lead); ok && j.First <= day {
				want = append(want, j)
				wantBright(t, s, j, least)
			}
		}
		l, err := w.Due(day, least, crew, lead)
		if !slices.Equal(l, want) || err != api.OK {
			t.Fatalf("Due of %d, %d, %d, %d: %+v, error %d, not %+v", day, least, crew, lead, l, err, want)
		}
		most = max(most, len(l))
	}
	if most != 6 {
		t.Errorf("at most %d signs are due", most)
	}
}

// wantBright fails the test if a sign is below least before its job is to be done (P10.15).
func wantBright(t *testing.T, s api.Made, j api.Job, least int) {
	t.Helper()
	if len(s.Measures) > 50 {
		return // light.Value takes no more measures
	}
	last := s.Measures[len(s.Measures)-1]
	for day := last.Day; day <= j.Last; day++ {
		r, err := light.Value(plain().Ageing, s.Number%4, s.Measures, day)
		must(t, "Value", err)
		if r < least && !(day == j.Last && last.R < least) {
			t.Errorf("the sign %+v has %d on day %d, before %d", s, r, day, j.Last)
		}
	}
}

// P10.7: the day on which a job may be begun is the first one on which Due returns it.
func TestDueFirst(t *testing.T) {
	w := fresh(t, whiteRoll, roundType, "make 5 1 10", "hang 1 9 1200 11", "light 1 250 0")
	j := api.Job{Number: 1, Road: 9, Chain: 1200, First: 334, Last: 364, Crew: 3, Dry: true} // the side 1 keeps 850: 212 on day 365
	for day, want := range map[int][]api.Job{0: nil, 333: nil, 334: {j}, 335: {j}, 100000: {j}} {
		if l, err := w.Due(day, 213, 3, 30); !slices.Equal(l, want) || err != api.OK {
			t.Errorf("Due of %d: %+v, error %d", day, l, err)
		}
	}
	if l, err := w.Due(100000, 0, 3, 30); len(l) != 0 || err != api.OK {
		t.Errorf("Due of what never fades: %+v, error %d", l, err)
	}
}

// P10.7: the errors of Due, with and without signs that have a measure.
func TestDueErrors(t *testing.T) {
	for _, w := range []*works.Works{fresh(t), fresh(t, whiteRoll, roundType, "make 5 2 10", "hang 1 9 1200 11"), lit(t)} {
		for _, c := range []struct {
			day, least, crew, lead int
			want                   api.Errno
		}{
			{0, 0, 1, 0, api.OK},
			{100000, 100000, 9, 100000, api.OK},
			{-1, 0, 1, 0, api.ErrArg},
			{100001, 0, 1, 0, api.ErrArg},
			{0, -1, 1, 0, api.ErrArg},
			{0, 100001, 1, 0, api.ErrArg},
			{0, 0, 0, 0, api.ErrArg},
			{0, 0, 10, 0, api.ErrArg},
			{0, 0, 1, -1, api.ErrArg},
			{0, 0, 1, 100001, api.ErrArg},
		} {
			if l, err := w.Due(c.day, c.least, c.crew, c.lead); err != c.want || (err != api.OK && len(l) > 0) {
				t.Errorf("Due of %+v: %v, error %d", c, l, err)
			}
		}
	}
}
