package book_test

import (
	"math/rand/v2"
	"slices"
	"testing"

	"blazon/api"
	"blazon/book"
)

// P9.6: Signs are those of all records that count, in ascending order, each once.
func TestSigns(t *testing.T) {
	b := bookOf(t,
		record(1, 1, 0, 1000000000, 2, 5), record(1, 2, 0, 40, 2, 5), record(1, 3, 0, 40, 3, 5), record(1, 4, 0, 2, 6, 5),
		record(1, 6, 0, 3, 2, 5), record(2, 1, 0, 5, 2, 5), record(2, 1, 0, 6, 2, 5), record(3, 1, 0, 40, 2, 1),
		record(3, 2, 0, 1, 1, 1), record(4, 1, 0, 7, 1, 1, 0, 0, 3),
	)
	if got := b.Signs(); !slices.Equal(got, []int{1, 2, 40, 1000000000}) {
		t.Errorf("Signs: %v", got)
	}
	if got := book.New().Signs(); len(got) != 0 {
		t.Errorf("Signs of an empty book: %v", got)
	}
	for _, m := range missing() {
		if len(m.Signs()) != 0 {
			t.Error("a book that is missing has signs")
		}
	}
}

// P9.6: the history of a sign goes by Hour, and within an hour by the order of records; what waits is not in it.
func TestHistory(t *testing.T) {
	b := bookOf(t,
		record(1, 1, 9, 7, 6, 0), record(1, 2, 3, 7, 1, 0), record(1, 3, 3, 7, 2, 0), record(1, 4, 10000000, 7, 3, 0),
		record(1, 5, 3, 8, 3, 0), record(2, 1, 3, 7, 5, 0), record(2, 2, 0, 7, 1, -4), record(2, 4, 0, 7, 1, 0), record(3, 1, 0, 7, 4, 0, 6),
	)
	history, err := b.History(7)
	must(t, "History", err)
	wantRecords(t, "History", history, []api.Record{
		record(2, 2, 0, 7, 1, -4), record(1, 2, 3, 7, 1, 0), record(1, 3, 3, 7, 2, 0), record(2, 1, 3, 7, 5, 0), record(1, 1, 9, 7, 6, 0),
		record(1, 4, 10000000, 7, 3, 0),
	})
	for _, sign := range []int{1, 9, 1000000000} {
		if history, err := b.History(sign); len(history) != 0 || err != api.OK {
			t.Errorf("History of a sign without records: %v, error %d", history, err)
		}
	}
}

// P9.6: History for what is no sign, and for a nil book.
func TestHistoryErrors(t *testing.T) {
	b := bookOf(t, record(1, 1, 0, 1000000000, 1, 0), record(1, 2, 0, 1, 1, 0))
	for _, sign := range []int{1, 1000000000} {
		if history, err := b.History(sign); len(history) != 1 || err != api.OK {
			t.Errorf("History(%d): %v, error %d", sign, history, err)
		}
	}
	for _, sign := range outside(1, 1000000000) {
		if history, err := b.History(sign); len(history) != 0 || err != api.ErrArg {
			t.Errorf("History(%d): %v, error %d", sign, history, err)
		}
	}
	for _, m := range missing() {
		if history, err := m.History(1); len(history) != 0 || err != api.ErrArg {
			t.Errorf("History of a book that is missing: %v, error %d", history, err)
		}
	}
}

// P9.6: AsOf has what counts and is not of a later hour; what has seen a later record, or one of a fork, waits in it.
func TestAsOf(t *testing.T) {
	s := shelf{
		record(1, 1, 5, 1, 2, 0), record(1, 2, 2, 1, 2, 1), record(2, 1, 3, 1, 2, 2), record(3, 1, 3, 1, 2, 3, 1),
		record(4, 1, 0, 1, 2, 4), record(4, 1, 1, 1, 2, 4), record(5, 1, 0, 1, 2, 5, 0, 0, 0, 1), record(6, 2, 0, 1, 2, 6),
	}
	b := bookOf(t, s...)
	for _, c := range []struct {
		hour int
		want shelf
	}{
		{0, shelf{s[6]}}, {1, shelf{s[6]}}, {2, shelf{s[1], s[6]}}, {3, shelf{s[1], s[2], s[3], s[6]}}, {4, shelf{s[1], s[2], s[3], s[6]}},
		{5, shelf{s[0], s[1], s[2], s[3], s[6]}}, {10000000, shelf{s[0], s[1], s[2], s[3], s[6]}},
	} {
		past, err := b.AsOf(c.hour)
		must(t, "AsOf", err)
		wantBook(t, past, c.want)
	}
	past, err := b.AsOf(3)
	must(t, "AsOf", err)
	wantRecords(t, "Waiting", past.Waiting(), []api.Record{s[1], s[3], s[6]})
}

// P9.6: what AsOf returns is independent of the book.
func TestAsOfIsIndependent(t *testing.T) {
	first := record(1, 1, 0, 1, 2, 0)
	b := bookOf(t, first)
	past, err := b.AsOf(0)
	must(t, "AsOf", err)
	second := write(t, b, 2, 0, 1, 2, 3)
	third := write(t, past, 3, 0, 1, 2, 4)
	wantBook(t, b, shelf{first, second})
	wantBook(t, past, shelf{first, third})
}

// P9.6: AsOf for what is no hour, and for a nil book.
func TestAsOfErrors(t *testing.T) {
	b := bookOf(t, record(1, 1, 0, 1, 1, 0))
	for _, hour := range outside(0, 10000000) {
		if past, err := b.AsOf(hour); past != nil || err != api.ErrArg {
			t.Errorf("AsOf(%d): error %d", hour, err)
		}
	}
	for _, m := range missing() {
		if past, err := m.AsOf(0); past != nil || err != api.ErrArg {
			t.Errorf("AsOf of a book that is missing: error %d", err)
		}
	}
}

// P9.12: without forks the values at the last hour are those of the book; no record of AsOf is later, and what counts in it counts in
// the book.
func TestAsOfAgainstBook(t *testing.T) {
	r := rand.New(rand.NewPCG(9, 12))
	same := 0
	for range 300 {
		b := bookOf(t, someRecords(r)...)
		waiting := b.Waiting()
		last, err := b.AsOf(10000000)
		must(t, "AsOf", err)
		for sign := 1; sign <= 2 && len(b.Forks()) == 0; sign++ {
			for field := 2; field <= 3; field++ {
				values, err := b.Values(sign, field)
				must(t, "Values", err)
				wantValues(t, last, sign, field, values...)
				same += len(values)
			}
		}
		for hour := range 5 {
			past, err := b.AsOf(hour)
			must(t, "AsOf", err)
			for _, q := range past.Records() {
				if q.Hour > hour || slices.Contains(waiting, q) || !slices.Contains(b.Records(), q) {
					t.Errorf("AsOf(%d) has %v", hour, q)
				}
			}
		}
	}
	if same == 0 {
		t.Error("there were no values")
	}
}
