package book

import (
	"cmp"
	"slices"

	"blazon/api"
)

// Values returns the values of a sign and field, in ascending order.
func (b *Book) Values(sign, field int) ([]int, api.Errno) {
	if b.missing() || !caseValid(sign, field) {
		return nil, api.ErrArg
	}
	return b.values(api.Case{Sign: sign, Field: field}), api.OK
}

// Disputes returns the signs and fields that have several values, in ascending order of Sign and then of Field.
func (b *Book) Disputes() []api.Case {
	if b.missing() {
		return nil
	}
	var disputes []api.Case
	for k := range b.cases {
		if len(b.values(k)) > 1 {
			disputes = append(disputes, k)
		}
	}
	slices.SortFunc(disputes, func(k, o api.Case) int {
		return cmp.Or(cmp.Compare(k.Sign, o.Sign), cmp.Compare(k.Field, o.Field))
	})
	return disputes
}

// Write makes a record of a tablet that has seen all that counts, and adds it to the book.
func (b *Book) Write(tablet, hour, sign, field, value int) (api.Record, api.Errno) {
	if b.missing() || !within(1, api.MaxTablets, tablet) {
		return api.Record{}, api.ErrArg
	}
	r := api.Record{Tablet: tablet, Hour: hour, Sign: sign, Field: field, Value: value, Seen: b.count}
	r.Number = r.Seen[tablet-1] + 1
	if !Valid(r) {
		return api.Record{}, api.ErrArg
	}
	if b.forked[tablet-1] != 0 {
		return api.Record{}, api.ErrFork
	}
	if _, there := b.at[place{tablet: r.Tablet, number: r.Number}]; there {
		return api.Record{}, api.ErrThere
	}
	b.add(r)
	return r, api.OK
}

// values returns the values of the heads of a sign and field, each once, in ascending order.
func (b *Book) values(k api.Case) []int {
	records := b.counting(k)
	// A record is before another one if that has seen as many of its tablet as its number: the most that any has seen decides.
	// None has seen itself.
	var seen [api.MaxTablets]int
	for _, r := range records {
		for t, n := range r.Seen {
			seen[t] = max(seen[t], n)
		}
	}
	var values []int
	for _, r := range records {
		if r.Number > seen[r.Tablet-1] {
			values = append(values, r.Value)
		}
	}
	slices.Sort(values)
	return slices.Compact(values)
}

// counting returns the records of a sign and field that count.
func (b *Book) counting(k api.Case) []api.Record {
	var records []api.Record
	for _, p := range b.cases[k] {
		// Where there is a fork, the record at the place may be one of another sign; but none counts there.
		if r := b.at[p]; b.counts(r) {
			records = append(records, r)
		}
	}
	return records
}
