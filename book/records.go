package book

import (
	"maps"
	"slices"

	"blazon/api"
)

// place is where a record stands: forks apart, no two records have the same.
type place struct {
	tablet, number int
}

// Book is a set of records. Only New makes one that can be used.
//
// What counts of a tablet are its records from the number 1 on up to some other one: each has seen all those of its own tablet
// with lesser numbers. So one number for each tablet says what counts. It grows with the records that are added, and a fork
// is all that makes it less.
type Book struct {
	records map[api.Record]bool
	at      map[place]api.Record // one record at each place: the only one, if there is no fork
	cases   map[api.Case][]place // where the records of a sign and field stand
	forked  [api.MaxTablets]int  // the least number at which a tablet is forked, or 0
	count   [api.MaxTablets]int  // how many records of a tablet count
}

// New returns an empty book.
func New() *Book {
	return &Book{
		records: map[api.Record]bool{},
		at:      map[place]api.Record{},
		cases:   map[api.Case][]place{},
	}
}

// Add puts a record into the book.
func (b *Book) Add(r api.Record) api.Errno {
	if b.missing() {
		return api.ErrArg
	}
	if !Valid(r) {
		return api.ErrRecord
	}
	if b.records[r] {
		return api.ErrThere
	}
	b.add(r)
	return api.OK
}

// Join adds all records of o that are not in b, and returns how many there were.
func (b *Book) Join(o *Book) (int, api.Errno) {
	if b.missing() || o.missing() {
		return 0, api.ErrArg
	}
	joined := 0
	for r := range o.records {
		if !b.records[r] {
			b.add(r)
			joined++
		}
	}
	return joined, api.OK
}

// Records returns all records, in the order of records.
func (b *Book) Records() []api.Record {
	return b.list(func(api.Record) bool { return true })
}

// Waiting returns the records that do not count, in the order of records.
func (b *Book) Waiting() []api.Record {
	return b.list(func(r api.Record) bool { return !b.counts(r) })
}

// Forks returns for each tablet that is forked the least number at which it is, in ascending order of tablets.
func (b *Book) Forks() []api.Fork {
	if b.missing() {
		return nil
	}
	var forks []api.Fork
	for t, n := range b.forked {
		if n != 0 {
			forks = append(forks, api.Fork{Tablet: t + 1, Number: n})
		}
	}
	return forks
}

// Copy returns a book that is independent of b and has the same records.
func (b *Book) Copy() *Book {
	if b.missing() {
		return nil
	}
	c := *b
	c.records = maps.Clone(b.records)
	c.at = maps.Clone(b.at)
	c.cases = make(map[api.Case][]place, len(b.cases))
	for k, places := range b.cases {
		c.cases[k] = slices.Clone(places)
	}
	return &c
}

// missing reports whether a book is nil or a zero value.
func (b *Book) missing() bool {
	return b == nil || b.records == nil
}

// list returns the records that are wanted, in the order of records; none of a book that is missing.
func (b *Book) list(wanted func(api.Record) bool) []api.Record {
	if b.missing() {
		return nil
	}
	var list []api.Record
	for r := range b.records {
		if wanted(r) {
			list = append(list, r)
		}
	}
	slices.SortFunc(list, compareRecords)
	return list
}

// counts reports whether a record of the book counts.
func (b *Book) counts(r api.Record) bool {
	return r.Number <= b.count[r.Tablet-1]
}

// add puts in a valid record that is not in the book.
func (b *Book) add(r api.Record) {
	b.records[r] = true
	p := place{tablet: r.Tablet, number: r.Number}
	if known, there := b.at[p]; !there {
		b.at[p] = r
	} else if known != r {
		b.fork(p)
	}
	k := api.Case{Sign: r.Sign, Field: r.Field}
	b.cases[k] = append(b.cases[k], p)
	b.advance()
}

// fork notes that there are two records at a place. Records of other tablets go on counting: they need less than before.
func (b *Book) fork(p place) {
	t := p.tablet - 1
	if b.forked[t] == 0 || p.number < b.forked[t] {
		b.forked[t] = p.number
	}
	b.count[t] = min(b.count[t], b.forked[t]-1)
}

// advance counts what can be shown to count, step by step, until nothing more can.
func (b *Book) advance() {
	for more := true; more; {
		more = false
		for t := range b.count {
			for b.nextCounts(t) {
				b.count[t]++
				more = true
			}
		}
	}
}

// nextCounts reports whether the first record of a tablet that was not counted counts, too. The tablet is that with the index t.
func (b *Book) nextCounts(t int) bool {
	p := place{tablet: t + 1, number: b.count[t] + 1}
	if b.asked(t, p.number) < p.number {
		return false
	}
	r, there := b.at[p]
	if !there {
		return false
	}
	for o, seen := range r.Seen {
		if b.asked(o, seen) > b.count[o] {
			return false
		}
	}
	return true
}

// asked returns how many records of a tablet must count for a record that has seen so many of them: those from a fork on are
// not asked for. The tablet is that with the index t.
func (b *Book) asked(t, seen int) int {
	if b.forked[t] == 0 {
		return seen
	}
	return min(seen, b.forked[t]-1)
}
