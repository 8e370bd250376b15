package sheet

import (
	"slices"

	"blazon/api"
)

// Use notes what a piece was used for.
func (s *Store) Use(piece, what int) api.Errno {
	if s.missing() || !between(what, 1, maxId) {
		return api.ErrArg
	}
	p, err := s.unused(piece)
	if err != api.OK {
		return err
	}
	p.Use = what
	s.pieces[piece] = p
	return api.OK
}

// Return puts a piece on the shelf again, or makes it waste if it is too small for that.
func (s *Store) Return(piece int) api.Errno {
	if s.missing() {
		return api.ErrArg
	}
	p, err := s.unused(piece)
	if err != api.OK {
		return err
	}
	delete(s.pieces, piece)
	if p.Width < s.rules.MinWidth || p.Length < s.rules.MinLength {
		return api.OK
	}
	s.items[piece] = api.Sheet{
		Id: p.Id, Root: p.Root, Grade: p.Grade, Colour: p.Colour, Lot: p.Lot, Made: s.lots[p.Lot].made,
		Width: p.Width, Length: p.Length,
	}
	return api.OK
}

// unused returns a piece that is there and has no Use.
func (s *Store) unused(piece int) (api.Piece, api.Errno) {
	p, there := s.pieces[piece]
	if !there {
		return api.Piece{}, api.ErrNone
	}
	if p.Use != 0 {
		return api.Piece{}, api.ErrUsed
	}
	return p, api.OK
}

// Scrap makes an item or a piece waste.
func (s *Store) Scrap(id int) api.Errno {
	if s.missing() {
		return api.ErrArg
	}
	_, item := s.items[id]
	_, piece := s.pieces[id]
	if !item && !piece {
		return api.ErrNone
	}
	delete(s.items, id)
	delete(s.pieces, id)
	return api.OK
}

// Expire makes the items waste that are too old on a day, and returns their Ids.
func (s *Store) Expire(day int) ([]int, api.Errno) {
	if s.missing() || !dayValid(day) {
		return nil, api.ErrArg
	}
	var expired []int
	for id, it := range s.items {
		if s.tooOld(it, day) {
			delete(s.items, id)
			expired = append(expired, id)
		}
	}
	slices.Sort(expired)
	return expired, api.OK
}

func (s *Store) tooOld(it api.Sheet, day int) bool {
	return day-it.Made > s.rules.Life[it.Grade-1]
}

// Recall makes the items and the unused pieces of a lot waste, and returns the Uses of its other pieces.
func (s *Store) Recall(lot int) ([]int, api.Errno) {
	if s.missing() {
		return nil, api.ErrArg
	}
	if _, received := s.lots[lot]; !received {
		return nil, api.ErrNone
	}
	for id, it := range s.items {
		if it.Lot == lot {
			delete(s.items, id)
		}
	}
	var uses []int
	for id, p := range s.pieces {
		if p.Lot != lot {
			continue
		}
		if p.Use == 0 {
			delete(s.pieces, id)
		} else {
			uses = append(uses, p.Use)
		}
	}
	slices.Sort(uses)
	return slices.Compact(uses), api.OK
}
