package sheet_test

import (
	"math"
	"slices"
	"testing"

	"blazon/api"
	"blazon/sheet"
)

// need60 is that of the chapter's example.
var need60 = api.Need{Grade: 2, Colour: api.White, Width: 60, Length: 50, Count: 1}

// P2.4: the chapter's example: the offset, what is left, and the order of the new Ids.
func TestTakeExample(t *testing.T) {
	roll := api.Roll{Id: 1, Grade: 2, Colour: api.White, Lot: 7, Width: 120, Length: 1000, Faults: []api.Span{{From: 10, To: 12}}}
	s := storeOf(t, someRules, roll)
	piece := api.Piece{Id: 4, Root: 1, Lot: 7, Grade: 2, Colour: api.White, Width: 60, Length: 50}
	if pieces := take(t, s, need60, 10); !slices.Equal(pieces, []api.Piece{piece}) {
		t.Errorf("Take: %v", pieces)
	}
	wantPieces(t, s, piece)
	wantItems(t, s,
		api.Sheet{Id: 1, Root: 1, Grade: 2, Colour: api.White, Lot: 7, Width: 120, Length: 938},
		api.Sheet{Id: 2, Root: 1, Grade: 2, Colour: api.White, Lot: 7, Width: 120, Length: 12, Faults: []api.Span{{From: 10, To: 12}}},
		api.Sheet{Id: 3, Root: 1, Grade: 2, Colour: api.White, Lot: 7, Width: 60, Length: 50})
	wantBalance(t, s, api.Balance{Received: 120000, Stock: 117000, Pieces: 3000})
	// the next one is cut from the strip, as a whole
	if pieces := take(t, s, need60, 10); len(pieces) != 1 || pieces[0].Id != 5 || pieces[0].Root != 1 {
		t.Errorf("the second Take: %v", pieces)
	}
	if items := s.Items(); len(items) != 2 {
		t.Errorf("behind the second Take: %v", items)
	}
	wantBalance(t, s, api.Balance{Received: 120000, Stock: 114000, Pieces: 6000})
}

// P2.4: what becomes an offcut, what stays, and what is waste, at the least measures and below them.
func TestOffcuts(t *testing.T) {
	rules := api.Shelf{MinWidth: 20, MinLength: 10, Life: [3]int{0, 0, 0}}
	for _, c := range []struct {
		name          string
		width, length int
		fault         int // the roll has a fault up to here
		need          [2]int
		front, strip  bool
		rest          bool
		waste         int
	}{
		{"all at the least", 80, 70, 10, [2]int{60, 50}, true, true, true, 0},
		{"front too short", 80, 69, 9, [2]int{60, 50}, false, true, true, 9 * 80},
		{"strip too narrow", 79, 70, 10, [2]int{60, 50}, true, false, true, 19 * 50},
		{"rest too short", 80, 69, 10, [2]int{60, 50}, true, true, false, 9 * 80},
		{"strip of the least length", 80, 30, 10, [2]int{60, 10}, true, true, true, 0},
		{"strip too short", 80, 29, 10, [2]int{60, 9}, true, false, true, 20 * 9},
		{"nothing left", 60, 50, 0, [2]int{60, 50}, false, false, false, 0},
		{"one dot of everything", 61, 52, 1, [2]int{60, 50}, false, false, false, 61*52 - 60*50},
		{"a narrow roll's front and rest", 15, 40, 10, [2]int{15, 20}, true, false, true, 0},
	} {
		roll := api.Roll{Id: 1, Grade: 2, Colour: api.White, Lot: 7, Width: c.width, Length: c.length}
		if c.fault > 0 {
			roll.Faults = []api.Span{{From: 0, To: c.fault}}
		}
		s := storeOf(t, rules, roll)
		pieces := take(t, s, api.Need{Grade: 2, Colour: api.White, Width: c.need[0], Length: c.need[1], Count: 1}, 0)
		var want []api.Sheet
		lay := func(id, width, length int, faults []api.Span) {
			want = append(want, api.Sheet{Id: id, Root: 1, Grade: 2, Colour: api.White, Lot: 7, Width: width, Length: length, Faults: faults})
		}
		if c.rest {
			lay(1, c.width, c.length-c.fault-c.need[1], nil)
		}
		next := 2
		if c.front {
			lay(next, c.width, c.fault, roll.Faults)
			next++
		}
		if c.strip {
			lay(next, c.width-c.need[0], c.need[1], nil)
			next++
		}
		wantItems(t, s, want...)
		if len(pieces) != 1 || pieces[0].Id != next {
			t.Errorf("%s: pieces %v, not %d", c.name, pieces, next)
		}
		if b := s.Balance(); b.Waste != c.waste {
			t.Errorf("%s: balance %+v, not the waste %d", c.name, b, c.waste)
		}
	}
}

// P2.4: faults lie in the front part or behind the piece, and are counted from where their item begins.
func TestFaults(t *testing.T) {
	roll := api.Roll{Id: 1, Grade: 2, Colour: api.White, Lot: 7, Width: 60, Length: 200,
		Faults: []api.Span{{From: 10, To: 12}, {From: 12, To: 15}, {From: 40, To: 41}, {From: 91, To: 93}, {From: 93, To: 94}, {From: 150, To: 160}}}
	s := storeOf(t, someRules, roll)
	take(t, s, need60, 0)
	wantItems(t, s,
		api.Sheet{Id: 1, Root: 1, Grade: 2, Colour: api.White, Lot: 7, Width: 60, Length: 109,
			Faults: []api.Span{{From: 0, To: 2}, {From: 2, To: 3}, {From: 59, To: 69}}},
		api.Sheet{Id: 2, Root: 1, Grade: 2, Colour: api.White, Lot: 7, Width: 60, Length: 41,
			Faults: []api.Span{{From: 10, To: 12}, {From: 12, To: 15}, {From: 40, To: 41}}})
	take(t, s, need60, 0)
	wantItems(t, s,
		api.Sheet{Id: 1, Root: 1, Grade: 2, Colour: api.White, Lot: 7, Width: 60, Length: 56, Faults: []api.Span{{From: 6, To: 16}}},
		api.Sheet{Id: 2, Root: 1, Grade: 2, Colour: api.White, Lot: 7, Width: 60, Length: 41,
			Faults: []api.Span{{From: 10, To: 12}, {From: 12, To: 15}, {From: 40, To: 41}}})
	wantPieces(t, s,
		api.Piece{Id: 3, Root: 1, Lot: 7, Grade: 2, Colour: api.White, Width: 60, Length: 50},
		api.Piece{Id: 4, Root: 1, Lot: 7, Grade: 2, Colour: api.White, Width: 60, Length: 50})
	wantBalance(t, s, api.Balance{Received: 12000, Stock: 97 * 60, Pieces: 6000, Waste: 180})
}

// white returns a roll of a lot without faults.
func white(id, lot, made, width, length int) api.Roll {
	return api.Roll{Id: id, Grade: 2, Colour: api.White, Lot: lot, Made: made, Width: width, Length: length}
}

// P2.4: of the items of a lot the narrowest one is cut, of these the shortest, of these the one with the least Id, if it
// is wide enough and clear for the piece.
func TestChoice(t *testing.T) {
	blocked := white(3, 7, 0, 60, 90)
	blocked.Faults = []api.Span{{From: 45, To: 46}}
	for name, c := range map[string]struct {
		rolls []api.Roll
		want  int
	}{
		"the narrowest":             {[]api.Roll{white(1, 7, 0, 100, 60), white(2, 7, 0, 70, 900), white(3, 7, 0, 90, 50)}, 2},
		"the shortest":              {[]api.Roll{white(1, 7, 0, 70, 61), white(2, 7, 0, 70, 900), white(3, 7, 0, 70, 60)}, 3},
		"the least Id":              {[]api.Roll{white(9, 7, 0, 70, 60), white(5, 7, 0, 70, 60), white(8, 7, 0, 70, 60)}, 5},
		"not too narrow":            {[]api.Roll{white(1, 7, 0, 59, 60), white(2, 7, 0, 90, 60)}, 2},
		"not too short":             {[]api.Roll{white(1, 7, 0, 60, 49), white(2, 7, 0, 90, 60)}, 2},
		"not blocked":               {[]api.Roll{blocked, white(4, 7, 0, 61, 60)}, 4},
		"blocked, but long enough":  {[]api.Roll{blocked, white(4, 7, 0, 60, 91)}, 4},
		"the Id before no property": {[]api.Roll{white(2, 7, 0, 80, 80), white(1, 7, 0, 80, 81)}, 2},
	} {
		s := storeOf(t, someRules, c.rolls...)
		pieces := take(t, s, need60, 0)
		if len(pieces) != 1 || pieces[0].Root != c.want {
			t.Errorf("%s: cut from %v, not from %d", name, pieces, c.want)
		}
	}
}

// P2.4: Lots by the day on which they were made and by number, and only those of which all pieces can be cut.
func TestLots(t *testing.T) {
	red, first, third := white(20, 10, 0, 60, 500), white(21, 11, 0, 60, 500), white(22, 12, 0, 60, 500)
	red.Colour, first.Grade, third.Grade = api.Red, 1, 3
	rolls := []api.Roll{
		white(1, 5, 10, 60, 150), white(2, 4, 10, 60, 100), white(3, 3, 20, 60, 500), white(4, 6, 5, 60, 50),
		white(5, 2, 30, 60, 500), white(6, 1, 0, 59, 500), red, first, third, white(7, 1000000000, 5, 60, 49), white(8, 9, 5, 60, 75),
		white(9, 9, 5, 60, 75),
	}
	s := storeOf(t, someRules, rolls...)
	for _, c := range []struct {
		count, day int
		want       []int
	}{
		{1, 30, []int{6, 9, 4, 5, 3, 2}},
		{2, 30, []int{9, 4, 5, 3, 2}},
		{3, 30, []int{5, 3, 2}},
		{4, 30, []int{3, 2}},
		{10, 30, []int{3, 2}},
		{11, 30, nil},
		{50, 30, nil},
		{1, 29, []int{6, 9, 4, 5, 3}},
		{1, 19, []int{6, 9, 4, 5}},
		{1, 9, []int{6, 9}},
		{1, 4, nil},
		// the life of grade 2 is 200 days
		{1, 205, []int{6, 9, 4, 5, 3, 2}},
		{1, 206, []int{4, 5, 3, 2}},
		{1, 211, []int{3, 2}},
		{1, 220, []int{3, 2}},
		{1, 221, []int{2}},
		{1, 231, nil},
		{1, 100000, nil},
	} {
		n := need60
		n.Count = c.count
		lots, err := s.Lots(n, c.day)
		if err != api.OK || !slices.Equal(lots, c.want) {
			t.Errorf("Lots of %d on %d: %v, error %d, not %v", c.count, c.day, lots, err, c.want)
		}
		pieces, err := s.Copy().Take(n, c.day)
		if len(c.want) == 0 {
			if err != api.ErrShort || len(pieces) != 0 {
				t.Errorf("Take of %d on %d: %v, error %d", c.count, c.day, pieces, err)
			}
		} else if err != api.OK || len(pieces) != c.count || pieces[0].Lot != c.want[0] {
			t.Errorf("Take of %d on %d: %v, error %d", c.count, c.day, pieces, err)
		}
	}
	wantBalance(t, s, api.Balance{Received: s.Balance().Received, Stock: s.Balance().Received})
}

// P2.4: offcuts of the first pieces serve the later ones; all come from one lot, also where several lots together would
// have enough.
func TestTakeSeveral(t *testing.T) {
	n := api.Need{Grade: 2, Colour: api.White, Width: 50, Length: 30, Count: 6}
	s := storeOf(t, someRules, white(1, 1, 0, 149, 60), white(2, 2, 0, 150, 60), white(3, 1, 0, 49, 60))
	lots, err := s.Lots(n, 0)
	if err != api.OK || !slices.Equal(lots, []int{2}) {
		t.Errorf("Lots: %v, error %d", lots, err)
	}
	var want []api.Piece
	// strip 4 and piece 5 from the roll, strip 6 and piece 7 from strip 4, piece 8 from strip 6; then the same again
	for _, id := range []int{5, 7, 8, 10, 12, 13} {
		want = append(want, api.Piece{Id: id, Root: 2, Lot: 2, Grade: 2, Colour: api.White, Width: 50, Length: 30})
	}
	if pieces := take(t, s, n, 0); !slices.Equal(pieces, want) {
		t.Errorf("Take: %v", pieces)
	}
	wantItems(t, s,
		api.Sheet{Id: 1, Root: 1, Grade: 2, Colour: api.White, Lot: 1, Width: 149, Length: 60},
		api.Sheet{Id: 3, Root: 3, Grade: 2, Colour: api.White, Lot: 1, Width: 49, Length: 60})
	for id, trace := range map[int][]int{8: {8, 6, 4, 2}, 13: {13, 11, 9, 2}, 7: {7, 4, 2}, 10: {10, 2}} {
		if got, err := s.Trace(id); err != api.OK || !slices.Equal(got, trace) {
			t.Errorf("Trace of %d: %v, error %d", id, got, err)
		}
	}
	wantBalance(t, s, api.Balance{Received: 9000 + 8940 + 2940, Stock: 8940 + 2940, Pieces: 9000})
}

// P2.4: new Ids follow the greatest Id of all that there were, also of rolls that are gone and came later.
func TestNewIds(t *testing.T) {
	s := storeOf(t, someRules, white(1, 1, 0, 60, 500))
	if pieces := take(t, s, need60, 0); pieces[0].Id != 2 {
		t.Errorf("the first piece is %d", pieces[0].Id)
	}
	must(t, "Receive", s.Receive(white(1000000000, 2, 0, 60, 500)))
	must(t, "Scrap", s.Scrap(1000000000))
	if pieces := take(t, s, need60, 0); pieces[0].Id != 1000000001 || pieces[0].Root != 1 {
		t.Errorf("the piece behind the greatest roll: %v", pieces)
	}
	must(t, "Scrap", s.Scrap(1000000001))
	if pieces := take(t, s, need60, 0); pieces[0].Id != 1000000002 {
		t.Errorf("the piece behind one that is gone: %v", pieces)
	}
	must(t, "Receive", s.Receive(white(3, 1, 0, 60, 50)))
	if pieces := take(t, s, need60, 0); pieces[0].Id != 1000000003 || pieces[0].Root != 3 {
		t.Errorf("the piece of a roll with a small Id: %v", pieces)
	}
}

// P2.4: the errors of Lots and Take, and P2.11: they change nothing.
func TestTakeErrors(t *testing.T) {
	s := storeOf(t, someRules, white(1, 1, 0, 150, 6000))
	before := stateOf(s)
	fields := []struct {
		field       func(n *api.Need) *int
		least, most int
	}{
		{func(n *api.Need) *int { return &n.Grade }, 1, 3},
		{func(n *api.Need) *int { return &n.Colour }, api.White, api.Brown},
		{func(n *api.Need) *int { return &n.Width }, 1, 150},
		{func(n *api.Need) *int { return &n.Length }, 1, 6000},
		{func(n *api.Need) *int { return &n.Count }, 1, 50},
	}
	for k, f := range fields {
		for _, value := range []int{f.least - 1, f.most + 1, math.MinInt, math.MaxInt} {
			n := need60
			*f.field(&n) = value
			wantRefused(t, s, n, 0)
		}
		for _, value := range []int{f.least, f.most} {
			n := need60
			*f.field(&n) = value
			if _, err := s.Lots(n, 0); err != api.OK {
				t.Errorf("Lots with %d in field %d: error %d", value, k, err)
			}
		}
	}
	for _, day := range []int{-1, 100001, math.MinInt, math.MaxInt} {
		wantRefused(t, s, need60, day)
	}
	for _, n := range []api.Need{
		{Grade: 1, Colour: api.White, Width: 1, Length: 1, Count: 1},
		{Grade: 2, Colour: api.Brown, Width: 1, Length: 1, Count: 1},
		{Grade: 2, Colour: api.White, Width: 76, Length: 3001, Count: 2},
		{Grade: 2, Colour: api.White, Width: 150, Length: 121, Count: 50},
	} {
		if pieces, err := s.Take(n, 0); err != api.ErrShort || len(pieces) != 0 {
			t.Errorf("Take of %v: %v, error %d", n, pieces, err)
		}
	}
	if !stateOf(s).is(before) {
		t.Error("Take with an error changed something")
	}
	pieces, err := s.Take(api.Need{Grade: 2, Colour: api.White, Width: 150, Length: 120, Count: 50}, 0)
	if err != api.OK || len(pieces) != 50 || len(s.Items()) != 0 || pieces[0].Id != 2 {
		t.Errorf("Take of a whole roll: %v, error %d", pieces, err)
	}
}

// wantRefused fails the test if Lots or Take do not return ErrArg alone.
func wantRefused(t *testing.T, s *sheet.Store, n api.Need, day int) {
	t.Helper()
	if lots, err := s.Lots(n, day); err != api.ErrArg || len(lots) != 0 {
		t.Errorf("Lots of %v on %d: %v, error %d", n, day, lots, err)
	}
	if pieces, err := s.Take(n, day); err != api.ErrArg || len(pieces) != 0 {
		t.Errorf("Take of %v on %d: %v, error %d", n, day, pieces, err)
	}
}
