package book_test

import (
	"math"
	"slices"
	"testing"

	"blazon/api"
	"blazon/book"
)

// good is a valid record, with something in each field.
func good() api.Record {
	return api.Record{Tablet: 2, Number: 3, Hour: 10, Sign: 7, Field: 4, Value: -5, Seen: [8]int{4, 2, 0, 9, 1, 0, 0, 8}}
}

// greatest is the record with all fields at their upper limits.
func greatest() api.Record {
	r := api.Record{Tablet: 8, Number: 1000000, Hour: 10000000, Sign: 1000000000, Field: 6, Value: 1 << 40}
	for t := range r.Seen {
		r.Seen[t] = 1000000
	}
	r.Seen[7] = 999999
	return r
}

// least is the record with all fields at their lower limits.
func least() api.Record {
	return api.Record{Tablet: 1, Number: 1, Sign: 1, Field: 1, Value: -(1 << 40)}
}

// outside are numbers just beyond limits, and far from them.
func outside(least, most int) []int {
	return []int{least - 1, most + 1, math.MinInt, math.MaxInt}
}

// wrongRecords are records of which one thing is not valid.
func wrongRecords() []api.Record {
	var wrong []api.Record
	set := func(least, most int, field func(r *api.Record) *int) {
		for _, v := range outside(least, most) {
			for _, r := range []api.Record{good(), greatest()} {
				*field(&r) = v
				wrong = append(wrong, r)
			}
		}
	}
	set(1, 8, func(r *api.Record) *int { return &r.Tablet })
	set(0, 10000000, func(r *api.Record) *int { return &r.Hour })
	set(1, 1000000000, func(r *api.Record) *int { return &r.Sign })
	set(1, 6, func(r *api.Record) *int { return &r.Field })
	set(-(1 << 40), 1<<40, func(r *api.Record) *int { return &r.Value })
	set(0, 1000000, func(r *api.Record) *int { return &r.Seen[0] })
	set(0, 1000000, func(r *api.Record) *int { return &r.Seen[6] })
	for _, seen := range outside(2, 2) {
		r := good()
		r.Seen[1] = seen
		wrong = append(wrong, r)
	}
	for _, number := range outside(1, 1000000) {
		r := good()
		r.Number, r.Seen[1] = number, number-1
		wrong = append(wrong, r)
	}
	swapped := good()
	swapped.Tablet = 3
	return append(wrong, swapped, api.Record{})
}

// record returns a record of a tablet that has seen so many records of the first tablets; the own number is put right.
func record(tablet, number, hour, sign, field, value int, seen ...int) api.Record {
	r := api.Record{Tablet: tablet, Number: number, Hour: hour, Sign: sign, Field: field, Value: value}
	copy(r.Seen[:], seen)
	r.Seen[tablet-1] = number - 1
	return r
}

// must fails the test if a call that has to be right returns an error.
func must(t *testing.T, call string, err api.Errno) {
	t.Helper()
	if err != api.OK {
		t.Fatalf("%s: error %d", call, err)
	}
}

// bookOf returns a book with records.
func bookOf(t *testing.T, records ...api.Record) *book.Book {
	t.Helper()
	b := book.New()
	for _, r := range records {
		must(t, "Add", b.Add(r))
	}
	return b
}

// write writes a record that has to be right.
func write(t *testing.T, b *book.Book, tablet, hour, sign, field, value int) api.Record {
	t.Helper()
	r, err := b.Write(tablet, hour, sign, field, value)
	must(t, "Write", err)
	return r
}

// join joins a book that has to be right to another one.
func join(t *testing.T, b, o *book.Book) int {
	t.Helper()
	n, err := b.Join(o)
	must(t, "Join", err)
	return n
}

// wantRecords fails the test if two lists of records are not the same.
func wantRecords(t *testing.T, what string, got, want []api.Record) {
	t.Helper()
	if !slices.Equal(got, want) {
		t.Errorf("%s:\n%v, not\n%v", what, got, want)
	}
}

// wantValues fails the test if the values of a sign and field are not these.
func wantValues(t *testing.T, b *book.Book, sign, field int, want ...int) {
	t.Helper()
	if got, err := b.Values(sign, field); err != api.OK || !slices.Equal(got, want) {
		t.Errorf("Values(%d, %d): %v, error %d, not %v", sign, field, got, err, want)
	}
}

// missing are a nil book and a zero value.
func missing() []*book.Book {
	return []*book.Book{nil, {}}
}

// P9.1: Valid, at the limits and just beyond them.
func TestValid(t *testing.T) {
	for _, r := range []api.Record{good(), greatest(), least(), record(1, 1, 0, 1, 1, 0)} {
		if !book.Valid(r) {
			t.Errorf("not valid: %v", r)
		}
	}
	for _, r := range wrongRecords() {
		if book.Valid(r) {
			t.Errorf("valid: %v", r)
		}
	}
}

// P9.1: r is before q if q has seen r's number of r's tablet.
func TestBefore(t *testing.T) {
	q := record(3, 5, 0, 1, 1, 0, 7, 2)
	for _, c := range []struct {
		tablet, number int
		want           bool
	}{{1, 7, true}, {1, 8, false}, {1, 1, true}, {2, 2, true}, {2, 3, false}, {3, 4, true}, {3, 5, false}, {4, 1, false}, {8, 1, false}} {
		if got := book.Before(record(c.tablet, c.number, 9, 8, 2, 6), q); got != c.want {
			t.Errorf("Before of the record %d of tablet %d: %t", c.number, c.tablet, got)
		}
	}
	if r := good(); book.Before(r, r) {
		t.Error("a record is before itself")
	}
}

// P9.1: Before takes records whatever their fields are; false for a Tablet that is none.
func TestBeforeOfAnyRecords(t *testing.T) {
	for _, tablet := range outside(1, 8) {
		if book.Before(api.Record{Tablet: tablet, Number: math.MinInt}, greatest()) {
			t.Errorf("before: a record of tablet %d", tablet)
		}
	}
	far := api.Record{Tablet: math.MaxInt, Number: math.MinInt, Field: -1, Seen: [8]int{math.MinInt, -3, 0, 0, 0, 0, 0, math.MaxInt}}
	for _, c := range []struct {
		tablet, number int
		want           bool
	}{{1, math.MinInt, true}, {1, math.MinInt + 1, false}, {2, -3, true}, {2, -2, false}, {3, 0, true}, {8, math.MaxInt, true}} {
		if got := book.Before(api.Record{Tablet: c.tablet, Number: c.number}, far); got != c.want {
			t.Errorf("Before of the record %d of tablet %d: %t", c.number, c.tablet, got)
		}
	}
}
