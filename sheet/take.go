package sheet

import (
	"cmp"
	"maps"
	"slices"

	"blazon/api"
)

// bench is sheet of one lot while pieces are cut from it. It has no part in the store, so that nothing has happened if
// there is not enough.
type bench struct {
	rules  api.Shelf
	items  map[int]api.Sheet
	pieces []api.Piece
	origin map[int]int // of the Ids that were given
	last   int         // the greatest Id so far
}

// Lots returns the lots from which all pieces of a need can be cut on a day, the oldest one first.
func (s *Store) Lots(n api.Need, day int) ([]int, api.Errno) {
	if s.missing() || !needValid(n) || !dayValid(day) {
		return nil, api.ErrArg
	}
	var lots []int
	usable := s.usable(day)
	for _, lot := range s.byAge(usable) {
		if _, ok := s.cutAll(usable[lot], n); ok {
			lots = append(lots, lot)
		}
	}
	return lots, api.OK
}

// Take cuts the pieces of a need from the first of its Lots.
func (s *Store) Take(n api.Need, day int) ([]api.Piece, api.Errno) {
	if s.missing() || !needValid(n) || !dayValid(day) {
		return nil, api.ErrArg
	}
	usable := s.usable(day)
	for _, lot := range s.byAge(usable) {
		if b, ok := s.cutAll(usable[lot], n); ok {
			s.replace(usable[lot], b)
			return b.pieces, api.OK
		}
	}
	return nil, api.ErrShort
}

// usable returns, by their lots, the items that can be used on a day.
func (s *Store) usable(day int) map[int]map[int]api.Sheet {
	usable := map[int]map[int]api.Sheet{}
	for id, it := range s.items {
		if day < it.Made || s.tooOld(it, day) {
			continue
		}
		if usable[it.Lot] == nil {
			usable[it.Lot] = map[int]api.Sheet{}
		}
		usable[it.Lot][id] = it
	}
	return usable
}

// byAge returns the lots of items, by the days on which they were made, and then by their numbers.
func (s *Store) byAge(items map[int]map[int]api.Sheet) []int {
	return slices.SortedFunc(maps.Keys(items), func(a, b int) int {
		return cmp.Or(cmp.Compare(s.lots[a].made, s.lots[b].made), cmp.Compare(a, b))
	})
}

// cutAll cuts the pieces of a need from items of one lot, and reports whether there were enough. It changes neither
// the store nor the items.
func (s *Store) cutAll(items map[int]api.Sheet, n api.Need) (*bench, bool) {
	b := &bench{rules: s.rules, items: maps.Clone(items), origin: map[int]int{}, last: s.last}
	for range n.Count {
		if !b.cut(n) {
			return nil, false
		}
	}
	return b, true
}

// replace puts what a bench has left, and the pieces that were cut on it, in the place of the items that lay on it.
func (s *Store) replace(items map[int]api.Sheet, b *bench) {
	for id := range items {
		delete(s.items, id)
	}
	maps.Copy(s.items, b.items)
	maps.Copy(s.origin, b.origin)
	for _, p := range b.pieces {
		s.pieces[p.Id] = p
	}
	s.last = b.last
}

// cut cuts one piece, and reports whether there was an item for it.
func (b *bench) cut(n api.Need) bool {
	it, p, ok := b.choose(n)
	if !ok {
		return false
	}
	end := p + n.Length
	delete(b.items, it.Id)
	if p >= b.rules.MinLength {
		b.lay(it.Id, part(it, 0, p))
	}
	if it.Width-n.Width >= b.rules.MinWidth && n.Length >= b.rules.MinLength {
		strip := part(it, p, end)
		strip.Width = it.Width - n.Width
		b.lay(it.Id, strip)
	}
	id := b.give(it.Id)
	b.pieces = append(b.pieces, api.Piece{
		Id: id, Root: it.Root, Lot: it.Lot, Grade: it.Grade, Colour: it.Colour,
		Width: n.Width, Length: n.Length,
	})
	if it.Length-end >= b.rules.MinLength {
		b.items[it.Id] = part(it, end, it.Length)
	}
	return true
}

// choose returns the item from which the next piece is cut, and its offset there. Offcuts of earlier pieces lie among
// the items too, which may be too narrow.
func (b *bench) choose(n api.Need) (best api.Sheet, offset int, found bool) {
	for _, it := range b.items {
		if !serves(it, n) || found && bySize(best, it) < 0 {
			continue
		}
		if p, ok := Clear(it.Length, it.Faults, n.Length); ok {
			best, offset, found = it, p, true
		}
	}
	return best, offset, found
}

// lay puts an offcut of an item on the bench.
func (b *bench) lay(from int, offcut api.Sheet) {
	offcut.Id = b.give(from)
	b.items[offcut.Id] = offcut
}

// give returns a new Id for what is cut from an item.
func (b *bench) give(from int) int {
	b.last++
	b.origin[b.last] = from
	return b.last
}

// part returns an item's length between two offsets, with the faults that lie there.
func part(it api.Sheet, from, to int) api.Sheet {
	cut := it
	cut.Length, cut.Faults = to-from, nil
	for _, f := range it.Faults {
		if from <= f.From && f.To <= to {
			cut.Faults = append(cut.Faults, api.Span{From: f.From - from, To: f.To - from})
		}
	}
	return cut
}

// serves reports whether an item has the grade and the colour of a need and is wide enough for it: whether the need
// stays the same with what the item has.
func serves(it api.Sheet, n api.Need) bool {
	with := n
	with.Grade, with.Colour, with.Width = it.Grade, it.Colour, min(it.Width, n.Width)
	return with == n
}

// bySize orders items by how gladly they are cut: what is left should be as large as possible.
func bySize(a, b api.Sheet) int {
	return cmp.Or(cmp.Compare(a.Width, b.Width), cmp.Compare(a.Length, b.Length), cmp.Compare(a.Id, b.Id))
}
