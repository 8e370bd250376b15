package works

import (
	"slices"

	"blazon/api"
	"blazon/book"
	"blazon/sheet"
)

// ownTablet is the one by which the works write.
const ownTablet = 1

// state is what the deeds that were carried out have made.
type state struct {
	setup api.Setup
	shelf *sheet.Store
	book  *book.Book
	own   int // how many records the book has of the works' own tablet
	types []api.Type
	signs []api.Made // in ascending order of Number: that of the first one is 1
}

// pair is what a record says of a sign.
type pair struct {
	field, value int
}

// replay carries out entries of a log from an empty beginning, and reports whether each of them is a deed without an error.
func replay(c api.Setup, entries [][]byte) (*state, bool) {
	shelf, _ := sheet.New(c.Rules)
	s := &state{setup: c, shelf: shelf, book: book.New()}
	for _, e := range entries {
		o, err := readOrder(string(e))
		if err != api.OK || !o.deed {
			return nil, false
		}
		if _, err := o.carry(s, o); err != api.OK {
			return nil, false
		}
	}
	return s, true
}

// copy returns a state that is independent of s.
func (s *state) copy() *state {
	c := *s
	c.shelf = s.shelf.Copy()
	c.book = s.book.Copy()
	c.types = slices.Clone(s.types)
	c.signs = cloneSigns(s.signs)
	return &c
}

// cloneSigns returns the same signs with lists of their own.
func cloneSigns(signs []api.Made) []api.Made {
	clone := slices.Clone(signs)
	for k := range clone {
		clone[k].Pieces = slices.Clone(clone[k].Pieces)
		clone[k].Measures = slices.Clone(clone[k].Measures)
	}
	return clone
}

// typeOn returns the type of a code that may be made on a day, and whether there is one.
func (s *state) typeOn(code, day int) (api.Type, bool) {
	for _, t := range s.types {
		if t.Code == code && t.From <= day && day < t.To {
			return t, true
		}
	}
	return api.Type{}, false
}

// find returns the sign with a number, and whether there is one.
func (s *state) find(number int) (*api.Made, bool) {
	if !between(number, 1, len(s.signs)) {
		return nil, false
	}
	return &s.signs[number-1], true
}

// findIn returns the sign with a number, if it is in one of some states.
func (s *state) findIn(number int, states ...int) (*api.Made, api.Errno) {
	sign, ok := s.find(number)
	if !ok {
		return nil, api.ErrNone
	}
	if !slices.Contains(states, sign.State) {
		return nil, api.ErrState
	}
	return sign, api.OK
}

// write writes a record of a sign for each pair, or none of them if there is an error.
func (s *state) write(sign int, pairs ...pair) api.Errno {
	if err := s.room(len(pairs)); err != api.OK {
		return err
	}
	for _, p := range pairs {
		if _, err := s.book.Write(ownTablet, 0, sign, p.field, p.value); err != api.OK {
			return err
		}
		s.own++
	}
	return api.OK
}

// room returns the error that book.Write will have for one of so many records. It refuses a record only if the tablet has no
// number left: no other hand writes for the tablet, so that it is not forked and all its records count.
func (s *state) room(records int) api.Errno {
	if s.own+records > api.MaxNumber {
		return api.ErrArg
	}
	return api.OK
}
