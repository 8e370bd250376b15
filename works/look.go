package works

import (
	"slices"
	"strconv"

	"blazon/api"
	"blazon/night"
)

// The limits of lots, and how many sides there are to which a sign can look.
const (
	maxLot = 1000000000
	sides  = 4
)

// values tells the values that the book has of a sign and field.
func (s *state) values(o order) (string, api.Errno) {
	values, err := s.book.Values(o.n[0], o.n[1])
	if err != api.OK {
		return "", err
	}
	return tell(values, strconv.Itoa), api.OK
}

// disputes tells the disputes of the book.
func (s *state) disputes(order) (string, api.Errno) {
	word := func(c api.Case) string { return strconv.Itoa(c.Sign) + "/" + strconv.Itoa(c.Field) }
	return tell(s.book.Disputes(), word), api.OK
}

// balance tells the areas of the shelf.
func (s *state) balance(order) (string, api.Errno) {
	b := s.shelf.Balance()
	return tell([]int{b.Received, b.Stock, b.Pieces, b.Used, b.Waste}, strconv.Itoa), api.OK
}

// showSign tells what a sign is, how it is, and what it is made of.
func (s *state) showSign(o order) (string, api.Errno) {
	sign, ok := s.find(o.n[0])
	if !ok {
		return "", api.ErrNone
	}
	return tell(append([]int{sign.Code, sign.State}, sign.Pieces...), strconv.Itoa), api.OK
}

// Recall returns the numbers of the signs at the roads that have a piece of a lot, in ascending order.
func (w *Works) Recall(lot int) ([]int, api.Errno) {
	if w.missing() || !between(lot, 1, maxLot) {
		return nil, api.ErrArg
	}
	var numbers []int
	for _, p := range w.now.shelf.Pieces() {
		if p.Lot != lot {
			continue
		}
		if _, err := w.now.findIn(p.Use, api.StateHung, api.StateCovered); err == api.OK {
			numbers = append(numbers, p.Use)
		}
	}
	slices.Sort(numbers)
	return slices.Compact(numbers), api.OK
}

// Due returns the jobs of the signs that hang and fall due, as far as they may be done by a day.
func (w *Works) Due(day, least, crew, lead int) ([]api.Job, api.Errno) {
	if w.missing() || !dayValid(day) {
		return nil, api.ErrArg
	}
	// Where no sign has a measure, one that is there for nothing else finds what is wrong with least, crew and lead.
	sample := api.Made{Number: 1, Road: 1, Measures: []api.Measure{{}}}
	if _, _, err := w.now.due(sample, least, crew, lead); err != api.OK {
		return nil, err
	}
	var jobs []api.Job
	for _, sign := range w.now.signs {
		if sign.State != api.StateHung || len(sign.Measures) == 0 {
			continue
		}
		job, ok, err := w.now.due(sign, least, crew, lead)
		if err == api.OK && ok && job.First <= day {
			jobs = append(jobs, job)
		}
	}
	return jobs, api.OK
}

// due returns the job of a sign that has a measure. The last measure alone decides when the sign falls due; a sign may have more
// of them than night.DueJob takes.
func (s *state) due(sign api.Made, least, crew, lead int) (api.Job, bool, api.Errno) {
	last := sign.Measures[len(sign.Measures)-1:]
	return night.DueJob(sign.Number, sign.Road, sign.Chain, crew, s.setup.Ageing, sign.Number%sides, last, least, lead)
}
