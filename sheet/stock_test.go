package sheet_test

import (
	"math"
	"slices"
	"testing"

	"blazon/api"
	"blazon/sheet"
)

// cutStore returns a store with the roll 1 of lot 7, the strips 2 and 4, and the pieces 3, 5 and 6, of 20 by 10 dots.
func cutStore(t *testing.T) *sheet.Store {
	t.Helper()
	s := storeOf(t, api.Shelf{MinWidth: 20, MinLength: 10, Life: [3]int{100, 200, 300}}, white(1, 7, 30, 60, 100))
	pieces := take(t, s, api.Need{Grade: 2, Colour: api.White, Width: 20, Length: 10, Count: 3}, 30)
	if len(pieces) != 3 || pieces[0].Id != 3 || pieces[1].Id != 5 || pieces[2].Id != 6 {
		t.Fatalf("pieces: %v", pieces)
	}
	return s
}

// P2.5: Use and its errors, in their order.
func TestUse(t *testing.T) {
	s := cutStore(t)
	must(t, "Use", s.Use(3, 1))
	must(t, "Use", s.Use(5, 1000000000))
	after := stateOf(s)
	for _, c := range []struct {
		piece, what int
		want        api.Errno
	}{
		{3, 0, api.ErrArg}, {3, -1, api.ErrArg}, {3, 1000000001, api.ErrArg}, {3, math.MaxInt, api.ErrArg}, {3, math.MinInt, api.ErrArg},
		{99, 0, api.ErrArg}, {99, 1, api.ErrNone}, {0, 1, api.ErrNone}, {-3, 1, api.ErrNone}, {math.MinInt, 1, api.ErrNone},
		{1, 1, api.ErrNone}, // an item
		{2, 1, api.ErrNone}, // a strip that is gone
		{3, 1, api.ErrUsed}, {3, 2, api.ErrUsed}, {5, 1, api.ErrUsed},
	} {
		if err := s.Use(c.piece, c.what); err != c.want {
			t.Errorf("Use(%d, %d): error %d, not %d", c.piece, c.what, err, c.want)
		}
	}
	if !stateOf(s).is(after) {
		t.Error("Use with an error changed something")
	}
	piece := api.Piece{Root: 1, Lot: 7, Grade: 2, Colour: api.White, Width: 20, Length: 10}
	one, two, three := piece, piece, piece
	one.Id, one.Use, two.Id, two.Use, three.Id = 3, 1, 5, 1000000000, 6
	wantPieces(t, s, one, two, three)
	wantBalance(t, s, api.Balance{Received: 6000, Stock: 5400, Pieces: 200, Used: 400})
	must(t, "Use of one number for two pieces", s.Use(6, 1))
}

// P2.5: Return, with the least measures and below them, and its errors in their order.
func TestReturn(t *testing.T) {
	s := cutStore(t)
	must(t, "Use", s.Use(3, 1))
	before := stateOf(s)
	for piece, want := range map[int]api.Errno{
		3: api.ErrUsed, 1: api.ErrNone, 2: api.ErrNone, 0: api.ErrNone, 99: api.ErrNone, math.MaxInt: api.ErrNone, math.MinInt: api.ErrNone,
	} {
		if err := s.Return(piece); err != want {
			t.Errorf("Return(%d): error %d, not %d", piece, err, want)
		}
	}
	if !stateOf(s).is(before) {
		t.Error("Return with an error changed something")
	}
	must(t, "Return", s.Return(6))
	wantItems(t, s,
		api.Sheet{Id: 1, Root: 1, Grade: 2, Colour: api.White, Lot: 7, Made: 30, Width: 60, Length: 90},
		api.Sheet{Id: 6, Root: 1, Grade: 2, Colour: api.White, Lot: 7, Made: 30, Width: 20, Length: 10})
	wantBalance(t, s, api.Balance{Received: 6000, Stock: 5600, Pieces: 200, Used: 200})
	for name, err := range map[string]api.Errno{"Return": s.Return(6), "Use": s.Use(6, 1)} {
		if err != api.ErrNone {
			t.Errorf("%s of a piece that was returned: error %d", name, err)
		}
	}
	// it can be cut again, and keeps its pedigree
	pieces := take(t, s, api.Need{Grade: 2, Colour: api.White, Width: 20, Length: 5, Count: 1}, 30)
	if trace, err := s.Trace(pieces[0].Id); err != api.OK || !slices.Equal(trace, []int{7, 6, 4, 2, 1}) {
		t.Errorf("Trace of a piece of a piece: %v, error %d", trace, err)
	}
	must(t, "Return of a short piece", s.Return(7))
	wantItems(t, s, api.Sheet{Id: 1, Root: 1, Grade: 2, Colour: api.White, Lot: 7, Made: 30, Width: 60, Length: 90})
	wantBalance(t, s, api.Balance{Received: 6000, Stock: 5400, Pieces: 200, Used: 200, Waste: 200})
	narrow := take(t, s, api.Need{Grade: 2, Colour: api.White, Width: 19, Length: 90, Count: 1}, 30)[0]
	must(t, "Return of a narrow piece", s.Return(narrow.Id))
	wantItems(t, s, api.Sheet{Id: 8, Root: 1, Grade: 2, Colour: api.White, Lot: 7, Made: 30, Width: 41, Length: 90})
	wantBalance(t, s, api.Balance{Received: 6000, Stock: 3690, Pieces: 200, Used: 200, Waste: 1910})
}

// P2.5: Scrap of items and of pieces, used or not.
func TestScrap(t *testing.T) {
	s := cutStore(t)
	must(t, "Use", s.Use(3, 1))
	before := stateOf(s)
	for _, id := range []int{0, -1, 2, 4, 7, 99, math.MaxInt, math.MinInt} {
		if err := s.Scrap(id); err != api.ErrNone {
			t.Errorf("Scrap(%d): error %d", id, err)
		}
	}
	if !stateOf(s).is(before) {
		t.Error("Scrap with an error changed something")
	}
	must(t, "Scrap of a used piece", s.Scrap(3))
	wantBalance(t, s, api.Balance{Received: 6000, Stock: 5400, Pieces: 400, Waste: 200})
	must(t, "Scrap of a piece", s.Scrap(5))
	wantBalance(t, s, api.Balance{Received: 6000, Stock: 5400, Pieces: 200, Waste: 400})
	must(t, "Scrap of an item", s.Scrap(1))
	wantItems(t, s)
	wantPieces(t, s, api.Piece{Id: 6, Root: 1, Lot: 7, Grade: 2, Colour: api.White, Width: 20, Length: 10})
	wantBalance(t, s, api.Balance{Received: 6000, Pieces: 200, Waste: 5800})
	for _, id := range []int{1, 3, 5} {
		if err := s.Scrap(id); err != api.ErrNone {
			t.Errorf("Scrap(%d) again: error %d", id, err)
		}
	}
}

// P2.6: Expire: an item is too old when it is older than its grade's life.
func TestExpire(t *testing.T) {
	short, long := white(11, 8, 40, 30, 30), white(12, 9, 0, 30, 30)
	short.Grade, long.Grade = 1, 3
	s := cutStore(t)
	must(t, "Receive", s.Receive(short))
	must(t, "Receive", s.Receive(long))
	must(t, "Return", s.Return(5))
	for _, c := range []struct {
		day  int
		want []int
		err  api.Errno
	}{
		{-1, nil, api.ErrArg}, {100001, nil, api.ErrArg}, {math.MaxInt, nil, api.ErrArg}, {math.MinInt, nil, api.ErrArg},
		{0, nil, api.OK}, {140, nil, api.OK},
		{141, []int{11}, api.OK}, {141, nil, api.OK}, {230, nil, api.OK},
		{231, []int{1, 5}, api.OK}, {300, nil, api.OK}, {100000, []int{12}, api.OK},
	} {
		if ids, err := s.Expire(c.day); err != c.err || !slices.Equal(ids, c.want) {
			t.Errorf("Expire(%d): %v, error %d, not %v", c.day, ids, err, c.want)
		}
	}
	wantItems(t, s)
	if n := len(s.Pieces()); n != 2 {
		t.Errorf("%d pieces are left", n)
	}
	wantBalance(t, s, api.Balance{Received: 7800, Pieces: 400, Waste: 7400})
}

// P2.6: Recall takes items and unused pieces of the lot, and names the uses of the others.
func TestRecall(t *testing.T) {
	s := cutStore(t)
	must(t, "Receive", s.Receive(white(50, 7, 30, 30, 30)))
	must(t, "Receive", s.Receive(white(51, 8, 20, 20, 20)))
	other := take(t, s, api.Need{Grade: 2, Colour: api.White, Width: 20, Length: 10, Count: 1}, 30)
	if other[0].Lot != 8 {
		t.Fatalf("the other lot's piece: %v", other)
	}
	must(t, "Use", s.Use(other[0].Id, 4))
	must(t, "Use", s.Use(3, 9))
	must(t, "Use", s.Use(5, 2))
	more, err := s.Take(api.Need{Grade: 2, Colour: api.White, Width: 30, Length: 30, Count: 1}, 30)
	if err != api.OK {
		t.Fatalf("Take: error %d", err)
	}
	must(t, "Use", s.Use(more[0].Id, 9))
	before := stateOf(s)
	for _, lot := range []int{0, -7, 6, 9, 1, math.MaxInt, math.MinInt} {
		if uses, err := s.Recall(lot); err != api.ErrNone || len(uses) != 0 {
			t.Errorf("Recall(%d): %v, error %d", lot, uses, err)
		}
	}
	if !stateOf(s).is(before) {
		t.Error("Recall with an error changed something")
	}
	for range 2 {
		if uses, err := s.Recall(7); err != api.OK || !slices.Equal(uses, []int{2, 9}) {
			t.Errorf("Recall: %v, error %d", uses, err)
		}
		for _, it := range s.Items() {
			if it.Lot == 7 {
				t.Errorf("behind Recall: %v", it)
			}
		}
		var ids []int
		for _, p := range s.Pieces() {
			ids = append(ids, p.Id)
		}
		if !slices.Equal(ids, []int{3, 5, other[0].Id, more[0].Id}) {
			t.Errorf("pieces behind Recall: %v", ids)
		}
	}
	wantBalance(t, s, api.Balance{Received: 7300, Stock: 200, Used: 1500, Waste: 5600})
	must(t, "Scrap", s.Scrap(3))
	if uses, err := s.Recall(7); err != api.OK || !slices.Equal(uses, []int{2, 9}) {
		t.Errorf("Recall when one of two pieces is gone: %v, error %d", uses, err)
	}
	must(t, "Receive of a lot that was recalled", s.Receive(white(60, 7, 30, 30, 30)))
	if uses, err := s.Recall(8); err != api.OK || !slices.Equal(uses, []int{4}) {
		t.Errorf("Recall of the other lot: %v, error %d", uses, err)
	}
}

// P2.7: Trace, also of what is gone, and of Ids that nothing has had.
func TestTrace(t *testing.T) {
	s := cutStore(t)
	must(t, "Receive", s.Receive(white(90, 8, 30, 30, 30)))
	check := func() {
		t.Helper()
		for id, want := range map[int][]int{1: {1}, 2: {2, 1}, 3: {3, 1}, 4: {4, 2, 1}, 5: {5, 2, 1}, 6: {6, 4, 2, 1}, 90: {90}} {
			if trace, err := s.Trace(id); err != api.OK || !slices.Equal(trace, want) {
				t.Errorf("Trace(%d): %v, error %d", id, trace, err)
			}
		}
	}
	check()
	if _, err := s.Recall(7); err != api.OK {
		t.Errorf("Recall: error %d", err)
	}
	must(t, "Scrap", s.Scrap(90))
	check()
	for _, id := range []int{0, -1, 7, 89, 91, math.MaxInt, math.MinInt} {
		if trace, err := s.Trace(id); err != api.ErrNone || len(trace) != 0 {
			t.Errorf("Trace(%d): %v, error %d", id, trace, err)
		}
	}
}
