package sheet_test

import (
	"math"
	"slices"
	"testing"

	"blazon/api"
	"blazon/sheet"
)

// someRules are those of the chapter's example.
var someRules = api.Shelf{MinWidth: 20, MinLength: 5, Life: [3]int{100, 200, 300}}

// must fails the test if a call that has to be right returns an error.
func must(t *testing.T, call string, err api.Errno) {
	t.Helper()
	if err != api.OK {
		t.Fatalf("%s: error %d", call, err)
	}
}

// storeOf returns a store with rolls.
func storeOf(t *testing.T, rules api.Shelf, rolls ...api.Roll) *sheet.Store {
	t.Helper()
	s, err := sheet.New(rules)
	must(t, "New", err)
	for _, r := range rolls {
		must(t, "Receive", s.Receive(r))
	}
	return s
}

// take returns the pieces of a need that has to be met.
func take(t *testing.T, s *sheet.Store, n api.Need, day int) []api.Piece {
	t.Helper()
	pieces, err := s.Take(n, day)
	must(t, "Take", err)
	return pieces
}

// sameItem reports whether two items are the same, with the same faults.
func sameItem(a, b api.Sheet) bool {
	faults := slices.Equal(a.Faults, b.Faults)
	a.Faults, b.Faults = nil, nil
	return faults && a.Id == b.Id && a.Root == b.Root && a.Grade == b.Grade && a.Colour == b.Colour && a.Lot == b.Lot &&
		a.Made == b.Made && a.Width == b.Width && a.Length == b.Length
}

// wantItems fails the test if the shelf does not have exactly these items.
func wantItems(t *testing.T, s *sheet.Store, want ...api.Sheet) {
	t.Helper()
	if got := s.Items(); !slices.EqualFunc(got, want, sameItem) {
		t.Errorf("Items:\n%v, not\n%v", got, want)
	}
}

// wantPieces fails the test if the store does not have exactly these pieces.
func wantPieces(t *testing.T, s *sheet.Store, want ...api.Piece) {
	t.Helper()
	if got := s.Pieces(); !slices.Equal(got, want) {
		t.Errorf("Pieces:\n%v, not\n%v", got, want)
	}
}

// wantBalance fails the test if the areas are others, or do not balance.
func wantBalance(t *testing.T, s *sheet.Store, want api.Balance) {
	t.Helper()
	if got := s.Balance(); got != want || got.Received != got.Stock+got.Pieces+got.Used+got.Waste {
		t.Errorf("Balance: %+v, not %+v", got, want)
	}
}

// state is all that can be seen of a store; the traces are those of the Ids up to 3000.
type state struct {
	items   []api.Sheet
	pieces  []api.Piece
	balance api.Balance
	traces  [][]int
}

// stateOf returns a state that stays as it is, also if the store should share memory with its results.
func stateOf(s *sheet.Store) state {
	st := state{items: slices.Clone(s.Items()), pieces: slices.Clone(s.Pieces()), balance: s.Balance()}
	for k := range st.items {
		st.items[k].Faults = slices.Clone(st.items[k].Faults)
	}
	for id := range 3000 {
		trace, _ := s.Trace(id)
		st.traces = append(st.traces, slices.Clone(trace))
	}
	return st
}

func (st state) is(other state) bool {
	return slices.EqualFunc(st.items, other.items, sameItem) && slices.Equal(st.pieces, other.pieces) &&
		st.balance == other.balance && slices.EqualFunc(st.traces, other.traces, slices.Equal[[]int])
}

// refusals returns calls of each function that has errors, with arguments that the function refuses itself, and with
// such that it takes: a nil store answers all of them with ErrArg.
func refusals(s *sheet.Store) map[string]func() (bool, api.Errno) {
	need := api.Need{Grade: 2, Colour: api.White, Width: 10, Length: 10, Count: 1}
	list := func(l []int, err api.Errno) (bool, api.Errno) { return len(l) == 0, err }
	pieces := func(l []api.Piece, err api.Errno) (bool, api.Errno) { return len(l) == 0, err }
	return map[string]func() (bool, api.Errno){
		"Receive":             func() (bool, api.Errno) { return true, s.Receive(goodRoll()) },
		"Receive of no roll":  func() (bool, api.Errno) { return true, s.Receive(api.Roll{}) },
		"Lots":                func() (bool, api.Errno) { return list(s.Lots(need, 1)) },
		"Lots of no need":     func() (bool, api.Errno) { return list(s.Lots(api.Need{}, -1)) },
		"Take":                func() (bool, api.Errno) { return pieces(s.Take(need, 1)) },
		"Take of no need":     func() (bool, api.Errno) { return pieces(s.Take(api.Need{}, -1)) },
		"Use":                 func() (bool, api.Errno) { return true, s.Use(1, 1) },
		"Use for nothing":     func() (bool, api.Errno) { return true, s.Use(1, 0) },
		"Return":              func() (bool, api.Errno) { return true, s.Return(1) },
		"Scrap":               func() (bool, api.Errno) { return true, s.Scrap(1) },
		"Expire":              func() (bool, api.Errno) { return list(s.Expire(1)) },
		"Expire on no day":    func() (bool, api.Errno) { return list(s.Expire(-1)) },
		"Recall":              func() (bool, api.Errno) { return list(s.Recall(7)) },
		"Recall of no lot":    func() (bool, api.Errno) { return list(s.Recall(0)) },
		"Trace":               func() (bool, api.Errno) { return list(s.Trace(1)) },
		"Trace of nothing":    func() (bool, api.Errno) { return list(s.Trace(0)) },
		"Return of the least": func() (bool, api.Errno) { return true, s.Return(math.MinInt) },
	}
}

// P2.1, R7: what nil stores and stores that are zero values answer.
func TestNilStores(t *testing.T) {
	var none *sheet.Store
	for name, s := range map[string]*sheet.Store{"nil": none, "zero": {}, "new": new(sheet.Store)} {
		for call, f := range refusals(s) {
			if empty, err := f(); err != api.ErrArg || !empty {
				t.Errorf("%s of a %s store: error %d", call, name, err)
			}
		}
		if len(s.Items()) != 0 || len(s.Pieces()) != 0 || s.Balance() != (api.Balance{}) || s.Copy() != nil {
			t.Errorf("a %s store has something", name)
		}
	}
}

// P2.3: New.
func TestNew(t *testing.T) {
	for _, rules := range invalidRules() {
		if s, err := sheet.New(rules); s != nil || err != api.ErrRules {
			t.Errorf("New(%v): %v, error %d", rules, s, err)
		}
	}
	// the least rules that are valid are not those of a zero store
	for _, rules := range []api.Shelf{someRules, {MinWidth: 1, MinLength: 1}} {
		s := storeOf(t, rules)
		wantItems(t, s)
		wantPieces(t, s)
		wantBalance(t, s, api.Balance{})
		must(t, "Receive", s.Receive(goodRoll()))
	}
}

// P2.3: Receive and Items.
func TestReceive(t *testing.T) {
	late := api.Roll{Id: 1000000000, Grade: 1, Colour: api.Brown, Lot: 8, Made: 0, Width: 150, Length: 6000}
	early := api.Roll{Id: 1, Grade: 3, Colour: api.Yellow, Lot: 9, Made: 100000, Width: 1, Length: 1}
	middle := goodRoll()
	middle.Id = 40
	s := storeOf(t, someRules, late, early, middle)
	wantItems(t, s,
		api.Sheet{Id: 1, Root: 1, Grade: 3, Colour: api.Yellow, Lot: 9, Made: 100000, Width: 1, Length: 1},
		api.Sheet{Id: 40, Root: 40, Grade: 2, Colour: api.White, Lot: 7, Made: 30, Width: 120, Length: 1000,
			Faults: []api.Span{{From: 10, To: 12}, {From: 12, To: 20}}},
		api.Sheet{Id: 1000000000, Root: 1000000000, Grade: 1, Colour: api.Brown, Lot: 8, Width: 150, Length: 6000})
	wantBalance(t, s, api.Balance{Received: 1020001, Stock: 1020001})
	wantPieces(t, s)
}

// P2.3: the errors of Receive, in their order, and that they change nothing (R3).
func TestReceiveErrors(t *testing.T) {
	s := storeOf(t, someRules, goodRoll())
	before := stateOf(s)
	for name, r := range invalidRolls() {
		if err := s.Receive(r); err != api.ErrRoll {
			t.Errorf("Receive of a roll with %s: error %d", name, err)
		}
	}
	for name, c := range map[string]struct {
		roll api.Roll
		want api.Errno
	}{
		"the same":              {goodRoll(), api.ErrThere},
		"the Id, invalid":       {rollWith(func(r *api.Roll) { r.Width = 0 }), api.ErrRoll},
		"the Id, another lot":   {rollWith(func(r *api.Roll) { r.Lot = 8 }), api.ErrThere},
		"the Id, another grade": {rollWith(func(r *api.Roll) { r.Grade = 1 }), api.ErrThere},
		"another grade":         {rollWith(func(r *api.Roll) { r.Id, r.Grade = 2, 1 }), api.ErrLot},
		"another colour":        {rollWith(func(r *api.Roll) { r.Id, r.Colour = 2, api.Red }), api.ErrLot},
		"another day":           {rollWith(func(r *api.Roll) { r.Id, r.Made = 2, 31 }), api.ErrLot},
		"another grade, no day": {rollWith(func(r *api.Roll) { r.Id, r.Grade, r.Made = 2, 1, -1 }), api.ErrRoll},
	} {
		if err := s.Receive(c.roll); err != c.want {
			t.Errorf("Receive with %s: error %d, not %d", name, err, c.want)
		}
	}
	if !stateOf(s).is(before) {
		t.Error("Receive with an error changed something")
	}
	must(t, "Receive of one more of the lot", s.Receive(rollWith(func(r *api.Roll) { r.Id, r.Width, r.Length, r.Faults = 2, 5, 5, nil })))
	must(t, "Receive of another lot", s.Receive(rollWith(func(r *api.Roll) { r.Id, r.Lot, r.Made = 3, 8, 31 })))
	if n := len(s.Items()); n != 3 {
		t.Errorf("%d items", n)
	}
}

// P2.3: an Id that anything has had is never free again, and a lot that is gone still has its grade, colour and day.
func TestReceiveFormer(t *testing.T) {
	s := storeOf(t, someRules, rollWith(func(r *api.Roll) { r.Id = 5 }))
	pieces := take(t, s, api.Need{Grade: 2, Colour: api.White, Width: 60, Length: 50, Count: 2}, 40)
	must(t, "Scrap", s.Scrap(5))
	must(t, "Return", s.Return(pieces[0].Id))
	must(t, "Scrap", s.Scrap(pieces[0].Id))
	must(t, "Scrap", s.Scrap(pieces[1].Id))
	if _, err := s.Recall(7); err != api.OK {
		t.Fatalf("Recall: error %d", err)
	}
	wantItems(t, s)
	wantPieces(t, s)
	// the front part 6, the strip 7 and the piece 8; then the second piece is cut from the strip, which becomes no offcut
	for id := 5; id <= pieces[1].Id; id++ {
		if err := s.Receive(rollWith(func(r *api.Roll) { r.Id = id })); err != api.ErrThere {
			t.Errorf("Receive of the former Id %d: error %d", id, err)
		}
	}
	next := pieces[1].Id + 1
	if err := s.Receive(rollWith(func(r *api.Roll) { r.Id, r.Made = next, 31 })); err != api.ErrLot {
		t.Errorf("Receive of a former lot: error %d", err)
	}
	must(t, "Receive", s.Receive(rollWith(func(r *api.Roll) { r.Id = next })))
	must(t, "Receive of an Id below", s.Receive(rollWith(func(r *api.Roll) { r.Id = 4 })))
}

// R4: a store keeps no argument, and no result shares its memory.
func TestMemory(t *testing.T) {
	roll := goodRoll()
	s := storeOf(t, someRules, roll)
	before := stateOf(s)
	roll.Faults[0] = api.Span{From: 0, To: 900}
	items := s.Items()
	items[0].Faults[0], items[0].Width = api.Span{From: 0, To: 900}, 1
	if !stateOf(s).is(before) {
		t.Error("the store shares its faults")
	}
	need := api.Need{Grade: 2, Colour: api.White, Width: 60, Length: 50, Count: 2}
	pieces := take(t, s, need, 40)
	before = stateOf(s)
	pieces[0].Use, pieces[1].Id = 5, 1
	s.Pieces()[0].Use = 6
	for _, it := range s.Items() {
		for k := range it.Faults {
			it.Faults[k] = api.Span{From: 1, To: 2}
		}
	}
	trace, _ := s.Trace(2)
	trace[0] = 99
	lots, _ := s.Lots(need, 40)
	lots[0] = 99
	for _, it := range s.Copy().Items() {
		clear(it.Faults)
	}
	if !stateOf(s).is(before) {
		t.Error("the store shares memory with its results")
	}
}

// P2.7: Copy is independent, and behaves like the store, its new Ids included.
func TestCopy(t *testing.T) {
	need := api.Need{Grade: 2, Colour: api.White, Width: 60, Length: 50, Count: 2}
	s := storeOf(t, someRules, goodRoll(), rollWith(func(r *api.Roll) { r.Id, r.Lot = 50, 8 }))
	used := take(t, s, need, 40)
	must(t, "Use", s.Use(used[0].Id, 3))
	c := s.Copy()
	before := stateOf(s)
	if !stateOf(c).is(before) {
		t.Error("a copy is not the same")
	}
	if _, err := c.Take(need, 41); err != api.OK {
		t.Errorf("Take of a copy: error %d", err)
	}
	must(t, "Use", c.Use(used[1].Id, 4))
	if _, err := c.Recall(7); err != api.OK {
		t.Errorf("Recall of a copy: error %d", err)
	}
	must(t, "Receive", c.Receive(rollWith(func(r *api.Roll) { r.Id, r.Lot, r.Grade = 200, 9, 3 })))
	must(t, "Scrap", c.Scrap(50))
	if !stateOf(s).is(before) {
		t.Error("a copy changed its store")
	}
	after := stateOf(c)
	must(t, "Use", s.Use(used[1].Id, 5))
	if _, err := s.Expire(100000); err != api.OK {
		t.Errorf("Expire: error %d", err)
	}
	must(t, "Receive", s.Receive(rollWith(func(r *api.Roll) { r.Id, r.Lot, r.Grade = 200, 9, 1 })))
	if !stateOf(c).is(after) {
		t.Error("a store changed its copy")
	}
}
