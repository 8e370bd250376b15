package book_test

import (
	"math"
	"math/rand/v2"
	"slices"
	"testing"

	"blazon/api"
	"blazon/book"
)

// P9.4: the chapter's first example.
func TestValuesOfTheExample(t *testing.T) {
	one, two := book.New(), book.New()
	write(t, one, 1, 0, 7, 2, 5)
	write(t, two, 2, 0, 7, 2, 6)
	wantValues(t, one, 7, 2, 5)
	join(t, one, two)
	wantValues(t, one, 7, 2, 5, 6)
	if got := one.Disputes(); !slices.Equal(got, []api.Case{{Sign: 7, Field: 2}}) {
		t.Errorf("Disputes: %v", got)
	}
	r := write(t, one, 1, 0, 7, 2, 6)
	if r != (api.Record{Tablet: 1, Number: 2, Sign: 7, Field: 2, Value: 6, Seen: [8]int{1, 1}}) {
		t.Errorf("Write: %v", r)
	}
	wantValues(t, one, 7, 2, 6)
	if got := one.Disputes(); len(got) != 0 {
		t.Errorf("Disputes: %v", got)
	}
	wantValues(t, two, 7, 2, 6)
}

// P9.4: the values are those of the heads, each once, in ascending order; a record that waits has none.
func TestValues(t *testing.T) {
	b := bookOf(t,
		record(1, 1, 0, 1, 2, 9), record(2, 1, 0, 1, 2, -3), record(3, 1, 0, 1, 2, 9), record(4, 1, 0, 1, 2, 1<<40),
		record(5, 1, 0, 1, 2, -(1<<40)), record(6, 2, 0, 1, 2, 7), record(7, 1, 0, 1, 2, 8, 0, 0, 0, 0, 0, 2),
		record(8, 1, 0, 2, 2, 4), record(8, 2, 0, 1, 3, 5),
	)
	wantValues(t, b, 1, 2, -(1 << 40), -3, 9, 1<<40)
	wantValues(t, b, 2, 2, 4)
	wantValues(t, b, 1, 3, 5)
	wantValues(t, b, 2, 3)
	wantValues(t, b, 1000000000, 6)
	wantValues(t, b, 1, 1)
	// A record of another sign or field ends nothing; one that has seen some of the heads takes their place.
	must(t, "Add", b.Add(record(8, 3, 0, 2, 2, 4, 1, 1, 1, 1, 1)))
	wantValues(t, b, 1, 2, -(1 << 40), -3, 9, 1<<40)
	must(t, "Add", b.Add(record(8, 4, 0, 1, 2, 4, 1, 1, 0, 0, 1)))
	wantValues(t, b, 1, 2, 4, 9, 1<<40)
}

// P9.4: before is what a record has seen itself. What its tablet had seen earlier does not come back, nor what others had seen.
func TestValuesOfWhatWasSeenItself(t *testing.T) {
	// The second record of tablet 2 has seen less than its first one, which still is behind that of tablet 1.
	b := bookOf(t, record(1, 1, 0, 1, 2, 5), record(2, 1, 0, 1, 2, 6, 1), record(2, 2, 0, 1, 2, 7))
	wantValues(t, b, 1, 2, 7)
	// The record of tablet 3 has seen one of another field, whose writer had seen the value 5.
	b = bookOf(t, record(1, 1, 0, 1, 2, 5), record(2, 1, 0, 1, 3, 6, 1), record(3, 1, 0, 1, 2, 7, 0, 1))
	wantValues(t, b, 1, 2, 5, 7)
	// A record that waits ends nothing, and one that is not there is not needed by what counts behind a fork.
	b = bookOf(t, record(1, 1, 0, 1, 2, 5), record(2, 2, 0, 1, 2, 7, 1))
	wantValues(t, b, 1, 2, 5)
	b = bookOf(t, record(1, 1, 0, 1, 2, 5), record(1, 1, 0, 1, 2, 6), record(2, 1, 0, 1, 2, 7, 4))
	wantValues(t, b, 1, 2, 7)
}

// P9.4: the records of a fork have no values, of whatever sign and field each of them is.
func TestValuesOfForks(t *testing.T) {
	b := bookOf(t, record(1, 1, 0, 1, 2, 5), record(1, 2, 0, 1, 2, 6), record(1, 3, 0, 2, 2, 7))
	wantValues(t, b, 1, 2, 6)
	must(t, "Add", b.Add(record(1, 2, 0, 3, 3, 8)))
	wantValues(t, b, 1, 2, 5)
	wantValues(t, b, 3, 3)
	wantValues(t, b, 2, 2)
	must(t, "Add", b.Add(record(1, 1, 0, 3, 3, 8)))
	wantValues(t, b, 1, 2)
	wantValues(t, b, 3, 3)
}

// P9.4: Values for what is no sign or field, and for a nil book.
func TestValuesErrors(t *testing.T) {
	b := bookOf(t, least(), record(1, 2, 0, 1000000000, 6, 3))
	wantValues(t, b, 1, 1, -(1 << 40))
	wantValues(t, b, 1000000000, 6, 3)
	check := func(b *book.Book, sign, field int) {
		t.Helper()
		if values, err := b.Values(sign, field); err != api.ErrArg || len(values) != 0 {
			t.Errorf("Values(%d, %d): %v, error %d", sign, field, values, err)
		}
	}
	for _, sign := range outside(1, 1000000000) {
		check(b, sign, 1)
	}
	for _, field := range outside(1, 6) {
		check(b, 1, field)
	}
	for _, m := range missing() {
		check(m, 1, 1)
		check(m, 0, 0)
	}
}

// P9.4: Disputes are in ascending order of Sign and then of Field; a nil book has none.
func TestDisputes(t *testing.T) {
	var want []api.Case
	b, o := book.New(), book.New()
	for _, sign := range []int{500, 1000000000, 1, 30, 2} {
		for _, field := range []int{6, 1, 4} {
			write(t, b, 3, 0, sign, field, 1)
			write(t, o, 4, 0, sign, field, 2)
			write(t, b, 3, 0, sign, 3, 1)
			write(t, o, 4, 0, sign, 3, 1)
			write(t, b, 3, 0, sign, 2, 1)
			want = append(want, api.Case{Sign: sign, Field: field})
		}
	}
	if got := b.Disputes(); len(got) != 0 {
		t.Errorf("Disputes of one tablet: %v", got)
	}
	join(t, b, o)
	slices.SortFunc(want, func(k, o api.Case) int {
		return slices.Compare([]int{k.Sign, k.Field}, []int{o.Sign, o.Field})
	})
	if got := b.Disputes(); !slices.Equal(got, want) {
		t.Errorf("Disputes:\n%v, not\n%v", got, want)
	}
	for _, m := range missing() {
		if len(m.Disputes()) != 0 {
			t.Error("a book that is missing has disputes")
		}
	}
}

// P9.5: what Write makes has seen all that counts, and no more; it is added.
func TestWrite(t *testing.T) {
	b := bookOf(t,
		record(1, 1, 0, 1, 2, 1), record(1, 2, 0, 1, 2, 2), record(1, 4, 0, 1, 2, 2), record(2, 1, 0, 1, 2, 3, 3), record(3, 1, 0, 1, 2, 4),
		record(4, 1, 0, 1, 2, 5), record(4, 2, 0, 1, 2, 5), record(4, 2, 0, 1, 2, 6), record(4, 3, 0, 1, 2, 6),
	)
	s := shelf(b.Records())
	for _, want := range []api.Record{
		record(8, 1, 3, 2, 3, 7, 2, 0, 1, 1),
		record(3, 2, 4, 2, 3, -7, 2, 0, 0, 1, 0, 0, 0, 1),
		record(8, 2, 0, 3, 2, 0, 2, 0, 2, 1),
		record(5, 1, 0, 1, 2, 0, 2, 0, 2, 1, 0, 0, 0, 2),
	} {
		if got := write(t, b, want.Tablet, want.Hour, want.Sign, want.Field, want.Value); got != want {
			t.Errorf("Write: %v, not %v", got, want)
		}
		s = append(s, want)
		wantBook(t, b, s)
	}
	// The record 3 of tablet 1 is the one that was missing: with it what waited counts.
	want := record(1, 3, 0, 1, 2, 0, 0, 0, 2, 1, 1, 0, 0, 2)
	if got := write(t, b, 1, 0, 1, 2, 0); got != want {
		t.Errorf("Write: %v, not %v", got, want)
	}
	wantBook(t, b, append(s, want))
	if got, last := write(t, b, 6, 0, 1, 2, 0), record(6, 1, 0, 1, 2, 0, 4, 1, 2, 1, 1, 0, 0, 2); got != last {
		t.Errorf("Write: %v, not %v", got, last)
	}
}

// P9.5: Write at the limits of its fields.
func TestWriteLimits(t *testing.T) {
	b := book.New()
	for _, r := range []api.Record{
		{Tablet: 1, Number: 1, Hour: 0, Sign: 1, Field: 1, Value: -(1 << 40)},
		{Tablet: 8, Number: 1, Hour: 10000000, Sign: 1000000000, Field: 6, Value: 1 << 40, Seen: [8]int{1}},
	} {
		if got := write(t, b, r.Tablet, r.Hour, r.Sign, r.Field, r.Value); got != r {
			t.Errorf("Write: %v, not %v", got, r)
		}
	}
}

// wantNoWrite fails the test if Write does not have an error, or changes the book.
func wantNoWrite(t *testing.T, b *book.Book, want api.Errno, tablet, hour, sign, field, value int) {
	t.Helper()
	before := b.Records()
	r, err := b.Write(tablet, hour, sign, field, value)
	if err != want || r != (api.Record{}) {
		t.Errorf("Write(%d, %d, %d, %d, %d): %v, error %d, not %d", tablet, hour, sign, field, value, r, err, want)
	}
	wantRecords(t, "Records", b.Records(), before)
}

// P9.5: the errors of Write, in their order.
func TestWriteErrors(t *testing.T) {
	// Tablet 2 is forked, and at what would be its next number tablets 2 and 3 have a record.
	b := bookOf(t,
		record(2, 1, 0, 1, 2, 0), record(2, 1, 0, 1, 2, 1), record(3, 1, 0, 1, 2, 1, 1), record(4, 3, 0, 1, 2, 1),
		record(5, 2, 0, 1, 2, 1), record(5, 2, 0, 1, 2, 2),
	)
	for _, tablet := range outside(1, 8) {
		wantNoWrite(t, b, api.ErrArg, tablet, 0, 1, 1, 0)
	}
	for _, tablet := range []int{1, 2, 3} {
		for _, hour := range outside(0, 10000000) {
			wantNoWrite(t, b, api.ErrArg, tablet, hour, 1, 1, 0)
		}
		for _, sign := range outside(1, 1000000000) {
			wantNoWrite(t, b, api.ErrArg, tablet, 0, sign, 1, 0)
		}
		for _, field := range outside(1, 6) {
			wantNoWrite(t, b, api.ErrArg, tablet, 0, 1, field, 0)
		}
		for _, value := range outside(-(1 << 40), 1<<40) {
			wantNoWrite(t, b, api.ErrArg, tablet, 0, 1, 1, value)
		}
	}
	wantNoWrite(t, b, api.ErrFork, 2, 0, 1, 1, 0)
	wantNoWrite(t, b, api.ErrThere, 3, 0, 1, 1, 0)
	// A fork at a later number is one as well; a record at a later number is not in the way.
	wantNoWrite(t, b, api.ErrFork, 5, 0, 1, 1, 0)
	write(t, b, 4, 0, 1, 1, 0)
	write(t, b, 4, 0, 1, 1, 0)
	for _, m := range missing() {
		wantNoWrite(t, m, api.ErrArg, 1, 0, 1, 1, 0)
		wantNoWrite(t, m, api.ErrArg, 0, -1, 0, 0, math.MinInt)
	}
}

// P9.5: there is no number behind MaxNumber; all other tablets can write.
func TestWriteBehindLastNumber(t *testing.T) {
	b := book.New()
	r := api.Record{Tablet: 1, Sign: 1, Field: 1}
	for r.Number < 999999 {
		r.Seen[0] = r.Number
		r.Number++
		must(t, "Add", b.Add(r))
	}
	if last := write(t, b, 1, 0, 1, 1, 5); last.Number != 1000000 {
		t.Errorf("Write: the number %d", last.Number)
	}
	if r, err := b.Write(1, 0, 1, 1, 6); err != api.ErrArg || r != (api.Record{}) {
		t.Errorf("Write: %v, error %d", r, err)
	}
	if r := write(t, b, 2, 0, 1, 2, 5); r != record(2, 1, 0, 1, 2, 5, 1000000) {
		t.Errorf("Write: %v", r)
	}
}

// P9.10: where no record waits, behind Write the values are its value alone.
func TestWriteDecides(t *testing.T) {
	r := rand.New(rand.NewPCG(9, 10))
	disputes := 0
	for range 400 {
		for _, b := range someField(t, r, 0) {
			if len(b.Waiting()) != 0 {
				t.Error("a record waits where no tablet was copied")
			}
			disputes += len(b.Disputes())
			sign, field, value := upTo(r, 1, 2), upTo(r, 2, 3), r.IntN(9)
			write(t, b, upTo(r, 1, 8), 0, sign, field, value)
			wantValues(t, b, sign, field, value)
		}
	}
	if disputes == 0 {
		t.Error("there was no dispute to decide")
	}
}

// P9.10: two tablets that write in two copies of a book make a dispute, if their values differ.
func TestTwoWritersDisagree(t *testing.T) {
	r := rand.New(rand.NewPCG(9, 110))
	for range 400 {
		b := someField(t, r, 0)[0]
		o := b.Copy()
		sign, field, one, two := upTo(r, 1, 2), upTo(r, 2, 3), r.IntN(3), r.IntN(3)
		order := r.Perm(8)
		write(t, b, order[0]+1, 0, sign, field, one)
		write(t, o, order[1]+1, 0, sign, field, two)
		join(t, b, o)
		want := slices.Compact([]int{min(one, two), max(one, two)})
		wantValues(t, b, sign, field, want...)
		if slices.Contains(b.Disputes(), api.Case{Sign: sign, Field: field}) != (one != two) {
			t.Errorf("Disputes of %d and %d: %v", one, two, b.Disputes())
		}
	}
}
