package book

import (
	"cmp"
	"slices"

	"blazon/api"
)

// Signs returns the signs of all records that count, in ascending order.
func (b *Book) Signs() []int {
	if b.missing() {
		return nil
	}
	var signs []int
	for k := range b.cases {
		if len(b.counting(k)) > 0 {
			signs = append(signs, k.Sign)
		}
	}
	slices.Sort(signs)
	return slices.Compact(signs)
}

// History returns the records of a sign that count, in ascending order of Hour, and for one hour in the order of records.
func (b *Book) History(sign int) ([]api.Record, api.Errno) {
	if b.missing() || !signValid(sign) {
		return nil, api.ErrArg
	}
	var history []api.Record
	for field := 1; field <= maxField; field++ {
		history = append(history, b.counting(api.Case{Sign: sign, Field: field})...)
	}
	slices.SortFunc(history, func(r, q api.Record) int {
		return cmp.Or(cmp.Compare(r.Hour, q.Hour), compareRecords(r, q))
	})
	return history, api.OK
}

// AsOf returns the book that has the records of b that count in b and were written at an hour or earlier.
func (b *Book) AsOf(hour int) (*Book, api.Errno) {
	if b.missing() || !within(0, api.MaxHour, hour) {
		return nil, api.ErrArg
	}
	past := New()
	for r := range b.records {
		if b.counts(r) && r.Hour <= hour {
			past.add(r)
		}
	}
	return past, api.OK
}
