package sheet

import "blazon/api"

// Trace returns the Id of an item or piece, that of the item from which it was cut, and so on up to the roll.
func (s *Store) Trace(id int) ([]int, api.Errno) {
	if s.missing() {
		return nil, api.ErrArg
	}
	from, known := s.origin[id]
	if !known {
		return nil, api.ErrNone
	}
	trace := []int{id}
	for from != 0 {
		trace = append(trace, from)
		from = s.origin[from]
	}
	return trace, api.OK
}

// Balance returns the areas of what was received and of where it is now: what is neither on the shelf nor in a piece
// is waste.
func (s *Store) Balance() api.Balance {
	if s.missing() {
		return api.Balance{}
	}
	b := api.Balance{Received: s.area}
	for _, it := range s.items {
		b.Stock += it.Width * it.Length
	}
	for _, p := range s.pieces {
		if p.Use == 0 {
			b.Pieces += p.Width * p.Length
		} else {
			b.Used += p.Width * p.Length
		}
	}
	b.Waste = b.Received - b.Stock - b.Pieces - b.Used
	return b
}
