package works

import (
	"slices"
	"strconv"

	"blazon/api"
	"blazon/book"
	"blazon/sheet"
)

// The limits of deeds that api does not name.
const (
	maxFaces = 20
	maxRoad  = 1000000
)

// receive puts a roll on the shelf.
func (s *state) receive(o order) (string, api.Errno) {
	n := o.n
	roll := api.Roll{Id: n[0], Grade: n[1], Colour: n[2], Lot: n[3], Made: n[4], Width: n[5], Length: n[6]}
	return done(s.shelf.Receive(roll))
}

// addType puts a type into the catalogue.
func (s *state) addType(o order) (string, api.Errno) {
	t := api.Type{Code: o.n[0], Grade: o.n[1], From: o.n[2], To: o.n[3], Text: o.tail}
	overlaps := func(other api.Type) bool { return other.Code == t.Code && other.From < t.To && t.From < other.To }
	if !ValidType(t) || slices.ContainsFunc(s.types, overlaps) {
		return "", api.ErrType
	}
	s.types = append(s.types, t)
	return done(api.OK)
}

// makeFaces makes signs of one type. It cuts their pieces from a copy of the shelf: there may be too little for the last ones.
func (s *state) makeFaces(o order) (string, api.Errno) {
	code, count, day := o.n[0], o.n[1], o.n[2]
	t, ok := s.typeOn(code, day)
	if !ok {
		return "", api.ErrNone
	}
	if !between(count, 1, maxFaces) {
		return "", api.ErrArg
	}
	need, err := Need(t, s.setup.StripWidth)
	if err != api.OK {
		return "", err
	}
	shelf := s.shelf.Copy()
	var made []api.Made
	first := len(s.signs) + 1
	for number := first; number < first+count; number++ {
		pieces, err := cutFor(shelf, need, day, number)
		if err != api.OK {
			return "", err
		}
		made = append(made, api.Made{Number: number, Code: code, State: api.StateMade, Pieces: pieces})
	}
	if err := s.writeMade(made); err != api.OK {
		return "", err
	}
	s.shelf = shelf
	s.signs = append(s.signs, made...)
	return strconv.Itoa(first) + "-" + strconv.Itoa(len(s.signs)), api.OK
}

// cutFor cuts the pieces of a sign, and returns their Ids.
func cutFor(shelf *sheet.Store, need api.Need, day, sign int) ([]int, api.Errno) {
	pieces, err := shelf.Take(need, day)
	if err != api.OK {
		return nil, err
	}
	var ids []int
	for _, p := range pieces {
		if err := shelf.Use(p.Id, sign); err != api.OK {
			return nil, err
		}
		ids = append(ids, p.Id)
	}
	return ids, api.OK
}

// writeMade writes the first records of signs, or none of them if there is an error.
func (s *state) writeMade(made []api.Made) api.Errno {
	if err := s.room(2 * len(made)); err != api.OK {
		return err
	}
	for _, m := range made {
		err := s.write(m.Number, pair{field: api.FieldCode, value: m.Code}, pair{field: api.FieldState, value: m.State})
		if err != api.OK {
			return err
		}
	}
	return api.OK
}

// hang puts a sign up at a road.
func (s *state) hang(o order) (string, api.Errno) {
	number, road, chain, day := o.n[0], o.n[1], o.n[2], o.n[3]
	sign, err := s.findIn(number, api.StateMade, api.StateCovered)
	if err != api.OK {
		return "", err
	}
	if !between(road, 1, maxRoad) || !between(chain, 0, api.MaxChain) || !dayValid(day) {
		return "", api.ErrArg
	}
	err = s.write(number,
		pair{field: api.FieldState, value: api.StateHung},
		pair{field: api.FieldRoad, value: road},
		pair{field: api.FieldChain, value: chain},
		pair{field: api.FieldDay, value: day},
	)
	if err != api.OK {
		return "", err
	}
	sign.State, sign.Road, sign.Chain, sign.Day = api.StateHung, road, chain, day
	return done(api.OK)
}

// cover covers a sign that hangs.
func (s *state) cover(o order) (string, api.Errno) {
	return done(s.become(o.n[0], api.StateCovered, api.StateHung))
}

// takeDown takes a sign down for good.
func (s *state) takeDown(o order) (string, api.Errno) {
	return done(s.become(o.n[0], api.StateDown, api.StateHung, api.StateCovered))
}

// become gives a sign another state, if it is in one of some states.
func (s *state) become(number, next int, states ...int) api.Errno {
	sign, err := s.findIn(number, states...)
	if err != api.OK {
		return err
	}
	if err := s.write(number, pair{field: api.FieldState, value: next}); err != api.OK {
		return err
	}
	sign.State = next
	return api.OK
}

// measure notes the coefficient of a sign on a day.
func (s *state) measure(o order) (string, api.Errno) {
	number, m := o.n[0], api.Measure{R: o.n[1], Day: o.n[2]}
	sign, err := s.findIn(number, api.StateHung)
	if err != api.OK {
		return "", err
	}
	first := 0
	if k := len(sign.Measures); k > 0 {
		first = sign.Measures[k-1].Day + 1
	}
	if m.R > api.MaxCoef || !between(m.Day, first, api.MaxDay) {
		return "", api.ErrArg
	}
	if err := s.write(number, pair{field: api.FieldLight, value: m.R}); err != api.OK {
		return "", err
	}
	sign.Measures = append(sign.Measures, m)
	return done(api.OK)
}

// scrap makes an item waste. The pieces of signs stay.
func (s *state) scrap(o order) (string, api.Errno) {
	used := func(p api.Piece) bool { return p.Id == o.n[0] && p.Use != 0 }
	if slices.ContainsFunc(s.shelf.Pieces(), used) {
		return "", api.ErrState
	}
	return done(s.shelf.Scrap(o.n[0]))
}

// expire makes waste what is too old on a day.
func (s *state) expire(o order) (string, api.Errno) {
	_, err := s.shelf.Expire(o.n[0])
	return done(err)
}

// recall makes waste what is left of a lot, and tells the signs that were made of it.
func (s *state) recall(o order) (string, api.Errno) {
	signs, err := s.shelf.Recall(o.n[0])
	if err != api.OK {
		return "", err
	}
	return tell(signs, strconv.Itoa), api.OK
}

// addRecord puts a record of another tablet into the book.
func (s *state) addRecord(o order) (string, api.Errno) {
	b, ok := readHex(o.tail)
	if !ok {
		return "", api.ErrForm
	}
	r, err := book.Unpack(b)
	if err != api.OK {
		return "", err
	}
	if r.Tablet == ownTablet || r.Seen[ownTablet-1] > s.own {
		return "", api.ErrArg
	}
	return done(s.book.Add(r))
}

// decide ends a dispute by a record of the works.
func (s *state) decide(o order) (string, api.Errno) {
	sign, field, value := o.n[0], o.n[1], o.n[2]
	if !slices.Contains(s.book.Disputes(), api.Case{Sign: sign, Field: field}) {
		return "", api.ErrNone
	}
	return done(s.write(sign, pair{field: field, value: value}))
}
