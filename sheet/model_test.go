package sheet_test

import (
	"cmp"
	"math/rand/v2"
	"slices"
	"testing"

	"blazon/api"
	"blazon/sheet"
)

// The tests hold the store against a second way to the same results: a list of all things that there ever were, with
// the number of the fault at each dot of their length, and with the waste counted where it arises.

// thing is an item or a piece, or what was one.
type thing struct {
	id, root, parent   int
	grade, colour      int
	lot, made          int
	width, length, use int
	begin              int   // where it begins in its roll
	marks              []int // for each dot of its length the number of its roll's fault, or 0
	item, piece        bool
}

type model struct {
	rules  api.Shelf
	rolls  []api.Roll
	things []thing
	waste  int
}

func (m *model) clone() *model {
	c := *m
	c.rolls, c.things = slices.Clone(m.rolls), slices.Clone(m.things)
	return &c
}

// find returns the place of a thing, or -1.
func (m *model) find(id int) int {
	return slices.IndexFunc(m.things, func(x thing) bool { return x.id == id })
}

func (m *model) receive(r api.Roll) api.Errno {
	if !sheet.ValidRoll(r) {
		return api.ErrRoll
	}
	if m.find(r.Id) >= 0 {
		return api.ErrThere
	}
	for _, other := range m.rolls {
		if other.Lot == r.Lot && (other.Grade != r.Grade || other.Colour != r.Colour || other.Made != r.Made) {
			return api.ErrLot
		}
	}
	m.rolls = append(m.rolls, r)
	x := thing{id: r.Id, root: r.Id, grade: r.Grade, colour: r.Colour, lot: r.Lot, made: r.Made, width: r.Width, length: r.Length, item: true}
	x.marks = make([]int, r.Length)
	for k, f := range r.Faults {
		for d := f.From; d < f.To; d++ {
			x.marks[d] = k + 1
		}
	}
	m.things = append(m.things, x)
	return api.OK
}

// offset returns the first place in a thing with so many dots without a fault.
func (x thing) offset(need int) (int, bool) {
	for p := 0; p+need <= x.length; p++ {
		if !slices.ContainsFunc(x.marks[p:p+need], func(mark int) bool { return mark != 0 }) {
			return p, true
		}
	}
	return 0, false
}

// slice returns a part of a thing as a new one.
func (x thing) slice(id, width, from, to int) thing {
	y := x
	y.id, y.parent, y.width, y.length, y.begin, y.marks = id, x.id, width, to-from, x.begin+from, x.marks[from:to]
	return y
}

// cutOne cuts one piece from a lot and returns its Id, or 0.
func (m *model) cutOne(lot int, n api.Need, day int) int {
	best, at := -1, 0
	for k, x := range m.things {
		if !x.item || x.lot != lot || x.grade != n.Grade || x.colour != n.Colour || x.width < n.Width {
			continue
		}
		if day < x.made || day-x.made > m.rules.Life[x.grade-1] {
			continue
		}
		p, ok := x.offset(n.Length)
		if !ok {
			continue
		}
		if best < 0 || slices.Compare([]int{x.width, x.length, x.id}, []int{m.things[best].width, m.things[best].length, m.things[best].id}) < 0 {
			best, at = k, p
		}
	}
	if best < 0 {
		return 0
	}
	return m.split(best, at, n)
}

// split cuts a piece from a thing and returns its Id.
func (m *model) split(k, at int, n api.Need) int {
	x := m.things[k]
	next := 0
	for _, y := range m.things {
		next = max(next, y.id+1)
	}
	m.waste += x.width*x.length - n.Width*n.Length
	keep := func(y thing) {
		m.things = append(m.things, y)
		m.waste -= y.width * y.length
		next++
	}
	if at >= m.rules.MinLength {
		keep(x.slice(next, x.width, 0, at))
	}
	if x.width-n.Width >= m.rules.MinWidth && n.Length >= m.rules.MinLength {
		keep(x.slice(next, x.width-n.Width, at, at+n.Length))
	}
	piece := x.slice(next, n.Width, at, at+n.Length)
	piece.item, piece.piece = false, true
	m.things = append(m.things, piece)
	rest := x.slice(x.id, x.width, at+n.Length, x.length)
	rest.parent, rest.item = x.parent, rest.length >= m.rules.MinLength
	if rest.item {
		m.waste -= rest.width * rest.length
	}
	m.things[k] = rest
	return piece.id
}

// tryLot returns the model behind a need's cuts from a lot, and the Ids of the pieces.
func (m *model) tryLot(lot int, n api.Need, day int) (*model, []int) {
	c := m.clone()
	var ids []int
	for range n.Count {
		id := c.cutOne(lot, n, day)
		if id == 0 {
			return nil, nil
		}
		ids = append(ids, id)
	}
	return c, ids
}

func (m *model) lots(n api.Need, day int) []int {
	rolls := slices.Clone(m.rolls)
	slices.SortFunc(rolls, func(a, b api.Roll) int { return cmp.Or(a.Made-b.Made, a.Lot-b.Lot) })
	var lots []int
	for _, r := range rolls {
		if _, ids := m.tryLot(r.Lot, n, day); ids != nil && !slices.Contains(lots, r.Lot) {
			lots = append(lots, r.Lot)
		}
	}
	return lots
}

func (m *model) take(n api.Need, day int) ([]api.Piece, api.Errno) {
	lots := m.lots(n, day)
	if len(lots) == 0 {
		return nil, api.ErrShort
	}
	c, ids := m.tryLot(lots[0], n, day)
	*m = *c
	var pieces []api.Piece
	for _, id := range ids {
		pieces = append(pieces, m.things[m.find(id)].asPiece())
	}
	return pieces, api.OK
}

func (x thing) asPiece() api.Piece {
	return api.Piece{Id: x.id, Root: x.root, Lot: x.lot, Grade: x.grade, Colour: x.colour, Width: x.width, Length: x.length, Use: x.use}
}

func (x thing) asItem() api.Sheet {
	it := api.Sheet{Id: x.id, Root: x.root, Grade: x.grade, Colour: x.colour, Lot: x.lot, Made: x.made, Width: x.width, Length: x.length}
	for d, mark := range x.marks {
		if mark == 0 {
			continue
		}
		if d == 0 || x.marks[d-1] != mark {
			it.Faults = append(it.Faults, api.Span{From: d})
		}
		it.Faults[len(it.Faults)-1].To = d + 1
	}
	return it
}

// unused returns the place of a piece without a use.
func (m *model) unused(piece int) (int, api.Errno) {
	k := m.find(piece)
	if k < 0 || !m.things[k].piece {
		return 0, api.ErrNone
	}
	if m.things[k].use != 0 {
		return 0, api.ErrUsed
	}
	return k, api.OK
}

func (m *model) use(piece, what int) api.Errno {
	k, err := m.unused(piece)
	if err == api.OK {
		m.things[k].use = what
	}
	return err
}

func (m *model) giveBack(piece int) api.Errno {
	k, err := m.unused(piece)
	if err != api.OK {
		return err
	}
	x := &m.things[k]
	x.piece = false
	if x.width >= m.rules.MinWidth && x.length >= m.rules.MinLength {
		x.item = true
	} else {
		m.waste += x.width * x.length
	}
	return api.OK
}

// discard makes the things waste of which a condition holds, and returns their Ids in ascending order.
func (m *model) discard(holds func(x thing) bool) []int {
	var ids []int
	for k := range m.things {
		x := &m.things[k]
		if (x.item || x.piece) && holds(*x) {
			m.waste += x.width * x.length
			x.item, x.piece = false, false
			ids = append(ids, x.id)
		}
	}
	slices.Sort(ids)
	return ids
}

func (m *model) scrap(id int) api.Errno {
	if len(m.discard(func(x thing) bool { return x.id == id })) == 0 {
		return api.ErrNone
	}
	return api.OK
}

func (m *model) expire(day int) []int {
	return m.discard(func(x thing) bool { return x.item && day-x.made > m.rules.Life[x.grade-1] })
}

func (m *model) recall(lot int) ([]int, api.Errno) {
	if !slices.ContainsFunc(m.rolls, func(r api.Roll) bool { return r.Lot == lot }) {
		return nil, api.ErrNone
	}
	m.discard(func(x thing) bool { return x.lot == lot && x.use == 0 })
	return m.uses(lot), api.OK
}

// uses returns the uses of the pieces that are there and whose roll has a lot.
func (m *model) uses(lot int) []int {
	var uses []int
	for _, x := range m.things {
		if x.piece && x.use != 0 && x.lot == lot {
			uses = append(uses, x.use)
		}
	}
	slices.Sort(uses)
	return slices.Compact(uses)
}

func (m *model) trace(id int) ([]int, api.Errno) {
	if m.find(id) < 0 {
		return nil, api.ErrNone
	}
	var trace []int
	for id != 0 {
		trace = append(trace, id)
		id = m.things[m.find(id)].parent
	}
	return trace, api.OK
}

func (m *model) balance() api.Balance {
	b := api.Balance{Waste: m.waste}
	for _, r := range m.rolls {
		b.Received += r.Width * r.Length
	}
	for _, x := range m.things {
		area := x.width * x.length
		switch {
		case x.item:
			b.Stock += area
		case x.piece && x.use == 0:
			b.Pieces += area
		case x.piece:
			b.Used += area
		}
	}
	return b
}

// compare fails the test if a store shows something else than a model.
func (m *model) compare(t *testing.T, s *sheet.Store) {
	t.Helper()
	var items []api.Sheet
	var pieces []api.Piece
	things := slices.SortedFunc(slices.Values(m.things), func(a, b thing) int { return a.id - b.id })
	for _, x := range things {
		if x.item {
			items = append(items, x.asItem())
		}
		if x.piece {
			pieces = append(pieces, x.asPiece())
		}
		trace, err := s.Trace(x.id)
		if want, _ := m.trace(x.id); err != api.OK || !slices.Equal(trace, want) {
			t.Fatalf("Trace(%d): %v, error %d, not %v", x.id, trace, err, want)
		}
	}
	wantItems(t, s, items...)
	wantPieces(t, s, pieces...)
	wantBalance(t, s, m.balance())
	if t.Failed() {
		t.FailNow()
	}
}

// someRoll returns a roll, mostly one that can be received.
func someRoll(r *rand.Rand) api.Roll {
	roll := api.Roll{Id: 1 + r.IntN(60), Lot: 1 + r.IntN(6), Width: 1 + r.IntN(14), Length: 1 + r.IntN(50)}
	// a lot has mostly one grade, colour and day
	roll.Grade, roll.Colour, roll.Made = 1+roll.Lot%2, 1+roll.Lot%3%2, 10*(roll.Lot%3)
	if r.IntN(10) == 0 {
		roll.Made++
	}
	end := 0
	for range r.IntN(5) {
		from := end + r.IntN(8)
		end = from + 1 + r.IntN(3)
		if end <= roll.Length {
			roll.Faults = append(roll.Faults, api.Span{From: from, To: end})
		}
	}
	return roll
}

func someNeed(r *rand.Rand) api.Need {
	return api.Need{Grade: 1 + r.IntN(2), Colour: 1 + r.IntN(2), Width: 1 + r.IntN(8), Length: 1 + r.IntN(10), Count: 1 + r.IntN(4)}
}

// checkTake holds Lots and Take of a store against the model, and against P2.9 and P2.11.
func checkTake(t *testing.T, s *sheet.Store, m *model, n api.Need, day int) {
	t.Helper()
	before := stateOf(s)
	lots, err := s.Lots(n, day)
	if err != api.OK || !slices.Equal(lots, m.lots(n, day)) {
		t.Fatalf("Lots of %v on %d: %v, error %d, not %v", n, day, lots, err, m.lots(n, day))
	}
	if !stateOf(s).is(before) {
		t.Fatal("Lots changed something")
	}
	pieces, err := s.Take(n, day)
	want, wantErr := m.take(n, day)
	if err != wantErr || !slices.Equal(pieces, want) {
		t.Fatalf("Take of %v on %d: %v, error %d, not %v, error %d", n, day, pieces, err, want, wantErr)
	}
	if err != api.OK {
		if !stateOf(s).is(before) {
			t.Fatal("Take with an error changed something")
		}
		return
	}
	after, _ := s.Lots(n, day)
	for _, lot := range after {
		if !slices.Contains(lots, lot) {
			t.Fatalf("Lots was %v, and is %v behind Take", lots, after)
		}
	}
	for _, p := range pieces {
		checkPiece(t, m, p, n, lots[0])
	}
}

// checkPiece holds a piece against P2.9: it has the need's measures, and no fault of its roll lies where it was cut.
func checkPiece(t *testing.T, m *model, p api.Piece, n api.Need, lot int) {
	t.Helper()
	if p.Lot != lot || p.Width != n.Width || p.Length != n.Length || p.Grade != n.Grade || p.Colour != n.Colour || p.Use != 0 {
		t.Fatalf("the piece %v of the need %v from the lot %d", p, n, lot)
	}
	begin := m.things[m.find(p.Id)].begin
	for _, roll := range m.rolls {
		for _, f := range roll.Faults {
			if roll.Id == p.Root && f.From < begin+p.Length && f.To > begin {
				t.Fatalf("the piece %v, cut at %d, has the fault %v", p, begin, f)
			}
		}
	}
}

// checkPedigree holds a store against P2.10: a piece's trace ends with its root, a roll of its lot.
func checkPedigree(t *testing.T, s *sheet.Store, m *model) {
	t.Helper()
	for _, p := range s.Pieces() {
		trace, err := s.Trace(p.Id)
		if err != api.OK || trace[0] != p.Id || trace[len(trace)-1] != p.Root {
			t.Fatalf("Trace of %v: %v, error %d", p, trace, err)
		}
		if !slices.ContainsFunc(m.rolls, func(r api.Roll) bool { return r.Id == p.Root && r.Lot == p.Lot }) {
			t.Fatalf("the root of %v is no roll of its lot", p)
		}
	}
}

// someCall calls a function of a store and of its model.
func someCall(t *testing.T, r *rand.Rand, s *sheet.Store, m *model) {
	t.Helper()
	id, lot, day := 1+r.IntN(90), 1+r.IntN(7), 10*r.IntN(4)+r.IntN(3)
	if len(m.things) > 0 && r.IntN(4) > 0 {
		id = m.things[r.IntN(len(m.things))].id
	}
	same := func(call string, got, want api.Errno, lists ...[]int) {
		if got != want || len(lists) == 2 && !slices.Equal(lists[0], lists[1]) {
			t.Fatalf("%s: error %d, not %d; %v", call, got, want, lists)
		}
	}
	switch k := r.IntN(20); {
	case k < 5:
		roll := someRoll(r)
		same("Receive", s.Receive(roll), m.receive(roll))
	case k < 11:
		checkTake(t, s, m, someNeed(r), day)
	case k < 14:
		what := 1 + r.IntN(9)
		same("Use", s.Use(id, what), m.use(id, what))
	case k < 17:
		same("Return", s.Return(id), m.giveBack(id))
	case k < 18:
		same("Scrap", s.Scrap(id), m.scrap(id))
	case k < 19 && r.IntN(4) == 0:
		got, err := s.Expire(day)
		same("Expire", err, api.OK, got, m.expire(day))
	case k < 20 && r.IntN(4) == 0:
		got, err := s.Recall(lot)
		want, wantErr := m.recall(lot)
		same("Recall", err, wantErr, got, want)
	}
}

// P2.3 to P2.11: stores and their copies through many calls. (P2.8 is checked by wantBalance.)
func TestModel(t *testing.T) {
	r := rand.New(rand.NewPCG(7, 8))
	for range 150 {
		rules := api.Shelf{MinWidth: 1 + r.IntN(5), MinLength: 1 + r.IntN(5), Life: [3]int{r.IntN(30), r.IntN(30), r.IntN(30)}}
		s, m := storeOf(t, rules), &model{rules: rules}
		for range 60 {
			someCall(t, r, s, m)
			m.compare(t, s)
			checkPedigree(t, s, m)
			if r.IntN(30) == 0 {
				// the copy goes on from here, and the store that is left stays as it is
				old, before := s, stateOf(s)
				s = s.Copy()
				for range 5 {
					someCall(t, r, s, m)
				}
				m.compare(t, s)
				if !stateOf(old).is(before) {
					t.Fatal("a copy changed its store")
				}
			}
		}
	}
}

// Equal inputs give equal results, whatever the order of the maps.
func TestDeterminism(t *testing.T) {
	run := func() state {
		r := rand.New(rand.NewPCG(9, 10))
		s := storeOf(t, api.Shelf{MinWidth: 2, MinLength: 2, Life: [3]int{50, 50, 50}})
		for range 300 {
			_ = s.Receive(someRoll(r))
			pieces, _ := s.Take(someNeed(r), 20)
			for _, p := range pieces {
				if r.IntN(2) == 0 {
					must(t, "Return", s.Return(p.Id))
				}
			}
		}
		return stateOf(s)
	}
	first := run()
	for range 5 {
		if !run().is(first) {
			t.Fatal("equal calls gave other results")
		}
	}
}
