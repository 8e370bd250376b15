package book_test

import (
	"math/rand/v2"
	"slices"
	"testing"

	"blazon/api"
	"blazon/book"
)

// P9.2: a new book is empty, and independent of all others.
func TestNew(t *testing.T) {
	b, other := book.New(), book.New()
	wantBook(t, b, nil)
	must(t, "Add", other.Add(good()))
	wantBook(t, b, nil)
	if b == nil || b == other {
		t.Error("New returns no new book")
	}
}

// P9.2: Add puts in records, valid at the limits, whether they count or not.
func TestAdd(t *testing.T) {
	s := shelf{record(1, 2, 1, 1, 2, 4), record(1, 1, 0, 1, 2, 5), record(2, 1, 0, 1, 2, 6, 2), record(3, 1, 0, 2, 3, 0, 3)}
	b := book.New()
	for i, r := range s {
		must(t, "Add", b.Add(r))
		wantBook(t, b, s[:i+1])
	}
	limits := bookOf(t, greatest(), least(), good())
	wantRecords(t, "Records", limits.Records(), []api.Record{least(), good(), greatest()})
	wantRecords(t, "Waiting", limits.Waiting(), []api.Record{good(), greatest()})
}

// P9.2: the errors of Add, in their order; behind each the book is as it was.
func TestAddErrors(t *testing.T) {
	for _, b := range missing() {
		for _, r := range []api.Record{good(), {}} {
			if err := b.Add(r); err != api.ErrArg {
				t.Errorf("Add to a book that is missing: error %d", err)
			}
		}
	}
	s := shelf{record(1, 1, 0, 1, 2, 5), record(1, 3, 0, 1, 2, 5)}
	b := bookOf(t, s...)
	for _, r := range wrongRecords() {
		if err := b.Add(r); err != api.ErrRecord {
			t.Errorf("Add(%v): error %d", r, err)
		}
	}
	for _, r := range s {
		if err := b.Add(r); err != api.ErrThere {
			t.Errorf("Add of what is there: error %d", err)
		}
	}
	wantBook(t, b, s)
}

// P9.2: a record that makes a fork is added, in whatever field it differs; each of them is there then.
func TestAddForks(t *testing.T) {
	for i, change := range []func(r *api.Record){
		func(r *api.Record) { r.Hour = 3 },
		func(r *api.Record) { r.Sign = 2 },
		func(r *api.Record) { r.Field = 3 },
		func(r *api.Record) { r.Value = 0 },
		func(r *api.Record) { r.Seen[0] = 1 },
		func(r *api.Record) { r.Seen[7] = 1 },
	} {
		first := record(4, 1, 0, 1, 2, 5)
		second := first
		change(&second)
		b := bookOf(t, first, second)
		wantBook(t, b, shelf{first, second})
		if !slices.Equal(b.Forks(), []api.Fork{{Tablet: 4, Number: 1}}) {
			t.Errorf("change %d: Forks: %v", i, b.Forks())
		}
		for _, r := range []api.Record{first, second} {
			if err := b.Add(r); err != api.ErrThere {
				t.Errorf("change %d: Add of what is there: error %d", i, err)
			}
		}
		third := first
		third.Value = 77
		must(t, "Add", b.Add(third))
		wantBook(t, b, shelf{first, second, third})
	}
}

// P9.2: Join adds what is not there and returns how many; the other book does not change, and stays independent.
func TestJoin(t *testing.T) {
	own, both, others := record(1, 1, 0, 1, 2, 5), record(2, 1, 0, 1, 2, 6), record(2, 2, 1, 1, 2, 7, 1)
	b, o := bookOf(t, own, both), bookOf(t, both, others)
	for _, want := range []int{1, 0} {
		if n := join(t, b, o); n != want {
			t.Errorf("Join: %d, not %d", n, want)
		}
		wantBook(t, b, shelf{own, both, others})
		wantBook(t, o, shelf{both, others})
	}
	if n := join(t, b, b); n != 0 {
		t.Errorf("Join of a book to itself: %d", n)
	}
	if n := join(t, b, book.New()); n != 0 {
		t.Errorf("Join of an empty book: %d", n)
	}
	wantBook(t, b, shelf{own, both, others})
	empty := book.New()
	if n := join(t, empty, o); n != 2 {
		t.Errorf("Join to an empty book: %d", n)
	}
	write(t, empty, 3, 0, 1, 2, 9)
	wantBook(t, o, shelf{both, others})
	write(t, o, 3, 0, 2, 2, 9)
	if n := len(empty.Records()); n != 3 {
		t.Errorf("%d records: a joined book changes with the other one", n)
	}
}

// P9.2: Join with a nil book has an error and no effect.
func TestJoinErrors(t *testing.T) {
	s := shelf{good()}
	for _, m := range missing() {
		b := bookOf(t, s...)
		for _, pair := range [][2]*book.Book{{m, b}, {b, m}, {m, m}, {m, nil}, {nil, m}} {
			if n, err := pair[0].Join(pair[1]); n != 0 || err != api.ErrArg {
				t.Errorf("Join: %d, error %d", n, err)
			}
		}
		wantRecords(t, "Records", b.Records(), s)
	}
}

// P9.3: Records are in the order of records: by each field in turn, the first difference counting.
func TestOrderOfRecords(t *testing.T) {
	ordered := []api.Record{
		record(1, 1, 9, 9, 6, 9, 0, 9, 9, 9, 9, 9, 9, 9),
		record(1, 2, 8, 9, 6, 9, 0, 9, 9, 9, 9, 9, 9, 9),
		record(2, 1, 0, 9, 6, 9, 9, 9, 9, 9, 9, 9, 9, 9),
		record(2, 1, 1, 8, 6, 9, 9, 9, 9, 9, 9, 9, 9, 9),
		record(2, 1, 1, 9, 5, 9, 9, 9, 9, 9, 9, 9, 9, 9),
		record(2, 1, 1, 9, 6, -9, 9, 9, 9, 9, 9, 9, 9, 9),
		record(2, 1, 1, 9, 6, 8, 9, 9, 9, 9, 9, 9, 9, 9),
		record(2, 1, 1, 9, 6, 9, 8, 9, 9, 9, 9, 9, 9, 9),
		record(2, 1, 1, 9, 6, 9, 9, 0, 8, 9, 9, 9, 9, 9),
		record(2, 1, 1, 9, 6, 9, 9, 0, 9, 8, 9, 9, 9, 9),
		record(2, 1, 1, 9, 6, 9, 9, 0, 9, 9, 8, 9, 9, 9),
		record(2, 1, 1, 9, 6, 9, 9, 0, 9, 9, 9, 8, 9, 9),
		record(2, 1, 1, 9, 6, 9, 9, 0, 9, 9, 9, 9, 8, 9),
		record(2, 1, 1, 9, 6, 9, 9, 0, 9, 9, 9, 9, 9, 8),
		record(2, 1, 1, 9, 6, 9, 9, 0, 9, 9, 9, 9, 9, 9),
		record(8, 1, 0, 1, 1, 0),
		record(8, 10, 0, 1, 1, 0),
		record(8, 100, 0, 1, 1, 0),
	}
	for i := range ordered {
		b := bookOf(t, ordered[i:]...)
		must(t, "Add", b.Add(least()))
		for k := range ordered[:i] {
			must(t, "Add", b.Add(ordered[i-1-k]))
		}
		wantRecords(t, "Records", b.Records(), append([]api.Record{least()}, ordered...))
	}
	b := bookOf(t, ordered...)
	wantRecords(t, "Waiting", b.Waiting(), append(slices.Clone(ordered[:15]), ordered[16:]...))
}

// P9.3: what is forked, at the least number of each tablet; in ascending order of tablets.
func TestForks(t *testing.T) {
	var records []api.Record
	want := []api.Fork{}
	for tablet := 8; tablet >= 1; tablet-- {
		for _, number := range []int{5, 3, 4} {
			records = append(records, record(tablet, number, 1, 1, 2, 0), record(tablet, number, 2, 1, 2, 0))
		}
		want = append(want, api.Fork{Tablet: 9 - tablet, Number: 3})
	}
	b := bookOf(t, records...)
	if got := b.Forks(); !slices.Equal(got, want) {
		t.Errorf("Forks: %v", got)
	}
	must(t, "Add", b.Add(record(6, 1, 0, 1, 2, 0)))
	must(t, "Add", b.Add(record(6, 2, 0, 1, 2, 0)))
	must(t, "Add", b.Add(record(6, 2, 0, 1, 2, 1)))
	want[5].Number = 2
	if got := b.Forks(); !slices.Equal(got, want) {
		t.Errorf("Forks: %v", got)
	}
	if got := bookOf(t, record(1, 1, 0, 1, 2, 0), record(2, 1, 0, 1, 2, 0), record(1, 2, 0, 1, 2, 0)).Forks(); len(got) != 0 {
		t.Errorf("Forks of a book that has none: %v", got)
	}
}

// P9.3: a nil book has no records, waiting ones and forks.
func TestRecordsOfNil(t *testing.T) {
	for _, b := range missing() {
		if len(b.Records()) != 0 || len(b.Waiting()) != 0 || len(b.Forks()) != 0 {
			t.Error("a book that is missing has something")
		}
	}
}

// P9.3: the lists are new memory.
func TestListsAreNew(t *testing.T) {
	s := shelf{
		record(1, 1, 0, 1, 2, 5), record(2, 1, 0, 1, 2, 6), record(3, 1, 0, 2, 3, 0, 3), record(4, 1, 0, 1, 2, 0), record(4, 1, 0, 1, 2, 1),
	}
	b := bookOf(t, s...)
	b.Records()[0] = good()
	b.Waiting()[0] = good()
	b.Forks()[0] = api.Fork{Tablet: 7, Number: 7}
	b.Disputes()[0] = api.Case{Sign: 7, Field: 7}
	b.Signs()[0] = 7
	values, _ := b.Values(1, 2)
	values[0] = 7
	history, _ := b.History(1)
	history[0] = good()
	wantBook(t, b, s)
}

// P9.3: what counts needs all that it has seen, and not more.
func TestWaiting(t *testing.T) {
	b := bookOf(t, record(2, 1, 0, 1, 2, 1, 2), record(3, 1, 0, 1, 2, 2, 0, 1), record(1, 2, 0, 1, 2, 3))
	if n := len(b.Waiting()); n != 3 {
		t.Errorf("%d records wait, not 3", n)
	}
	must(t, "Add", b.Add(record(1, 1, 0, 1, 2, 4)))
	if n := len(b.Waiting()); n != 0 {
		t.Errorf("%d records wait, not 0", n)
	}
	// Two that have seen each other can never be shown to count, nor what has seen one of them.
	circle := shelf{record(1, 1, 0, 1, 2, 1, 0, 1), record(2, 1, 0, 1, 2, 2, 1), record(3, 1, 0, 1, 2, 3, 0, 1), record(4, 1, 0, 1, 2, 4)}
	wantBook(t, bookOf(t, circle...), circle)
	wantRecords(t, "Waiting", bookOf(t, circle...).Waiting(), circle[:3])
	// A record that has seen a fork counts, if it has seen nothing else that is not there; a fork of one of the two sets them free.
	must(t, "Add", b.Add(record(4, 1, 0, 1, 2, 0, 0, 0, 5)))
	wantRecords(t, "Waiting", b.Waiting(), []api.Record{record(4, 1, 0, 1, 2, 0, 0, 0, 5)})
	must(t, "Add", b.Add(record(3, 1, 0, 1, 2, 9)))
	wantRecords(t, "Waiting", b.Waiting(), []api.Record{record(3, 1, 0, 1, 2, 2, 0, 1), record(3, 1, 0, 1, 2, 9)})
	circle = append(circle, record(1, 1, 0, 2, 2, 1))
	wantBook(t, bookOf(t, circle...), circle)
	wantRecords(t, "Waiting", bookOf(t, circle...).Waiting(), []api.Record{circle[0], circle[4]})
}

// P9.3: a long chain of records counts in whatever order they come, and none behind a gap.
func TestLongChain(t *testing.T) {
	var chain []api.Record
	for n := 1; n <= 3000; n++ {
		chain = append(chain, record(1, n, 0, n, 2, n, 0, n-1), record(2, n, 0, n, 2, n, n))
	}
	forth, back := book.New(), book.New()
	for i, r := range chain {
		must(t, "Add", forth.Add(r))
		if i < len(chain)-1 {
			must(t, "Add", back.Add(chain[len(chain)-1-i]))
		}
	}
	if n := len(forth.Waiting()); n != 0 {
		t.Errorf("%d records wait, not 0", n)
	}
	if n := len(back.Waiting()); n != len(chain)-1 {
		t.Errorf("%d records wait, not %d", n, len(chain)-1)
	}
	must(t, "Add", back.Add(chain[0]))
	if n := len(back.Waiting()); n != 0 {
		t.Errorf("%d records wait, not 0", n)
	}
	wantRecords(t, "Records", back.Records(), forth.Records())
}

// P9.3: books are what a shelf of their records shows, whatever the records are.
func TestBooksAgainstReference(t *testing.T) {
	r := rand.New(rand.NewPCG(9, 3))
	for range 1500 {
		s := someRecords(r)
		wantBook(t, bookOf(t, s...), s)
	}
}

// P9.6: a copy shows the same, and each of the two goes its own way.
func TestCopy(t *testing.T) {
	r := rand.New(rand.NewPCG(9, 6))
	for range 200 {
		s, more := someRecords(r), someRecords(r)
		b := bookOf(t, s...)
		one, two := b.Copy(), b.Copy()
		wantBook(t, one, s)
		added, others := slices.Clone(s), slices.Clone(s)
		for i, q := range more {
			if slices.Contains(s, q) {
				continue
			}
			if i%2 == 0 {
				must(t, "Add", one.Add(q))
				added = append(added, q)
			} else {
				must(t, "Add", two.Add(q))
				others = append(others, q)
			}
		}
		wantBook(t, b, s)
		wantBook(t, one, added)
		wantBook(t, two, others)
	}
	for _, b := range missing() {
		if b.Copy() != nil {
			t.Error("a book that is missing has a copy")
		}
	}
}

// P9.9: joins in any order, and any of them twice, give the same book.
func TestJoinsInAnyOrder(t *testing.T) {
	r := rand.New(rand.NewPCG(9, 9))
	for range 150 {
		books := someField(t, r, 25)
		for range upTo(r, 0, 2) {
			books = append(books, bookOf(t, someRecords(r)...))
		}
		var all shelf
		for _, b := range books {
			for _, q := range b.Records() {
				if !slices.Contains(all, q) {
					all = append(all, q)
				}
			}
		}
		for range 4 {
			joined := book.New()
			order := append(r.Perm(len(books)), r.Perm(len(books))...)
			count := 0
			for _, i := range order {
				count += join(t, joined, books[i])
			}
			if count != len(all) {
				t.Errorf("joined %d records, not %d", count, len(all))
			}
			wantBook(t, joined, all)
		}
	}
}

// P9.9: what counts keeps counting, unless its own tablet is forked at its number or a lesser one.
func TestWhatCountsKeepsCounting(t *testing.T) {
	r := rand.New(rand.NewPCG(9, 109))
	lost := 0
	for range 500 {
		b := book.New()
		for _, q := range someRecords(r) {
			before := shelf(b.Records()).counting()
			must(t, "Add", b.Add(q))
			waiting := b.Waiting()
			for _, c := range before {
				forked := slices.ContainsFunc(b.Forks(), func(f api.Fork) bool { return f.Tablet == c.Tablet && f.Number <= c.Number })
				if slices.Contains(waiting, c) != forked {
					t.Errorf("behind %v the record %v waits: %t", q, c, !forked)
				}
				if forked {
					lost++
				}
			}
		}
	}
	if lost == 0 {
		t.Error("no record stopped counting: the test looks at one side alone")
	}
}

// P9.11: a tablet that was copied loses its records from the double number on in every book that has both.
func TestCopiedTablet(t *testing.T) {
	first := book.New()
	write(t, first, 1, 0, 1, 2, 5)
	write(t, first, 2, 0, 2, 2, 4)
	second := first.Copy()
	kept := first.Records()
	write(t, first, 1, 1, 1, 2, 6)
	write(t, first, 1, 1, 3, 2, 6)
	write(t, second, 1, 1, 1, 2, 8)
	write(t, second, 2, 1, 2, 2, 3)
	for _, books := range [][]*book.Book{{first, second}, {second, first}, {first, second, first}} {
		b := book.New()
		for _, o := range books {
			join(t, b, o)
		}
		wantBook(t, b, b.Records())
		wantValues(t, b, 1, 2, 5)
		wantValues(t, b, 2, 2, 3)
		wantValues(t, b, 3, 2)
		if !slices.Equal(b.Forks(), []api.Fork{{Tablet: 1, Number: 2}}) {
			t.Errorf("Forks: %v", b.Forks())
		}
		for _, r := range b.Waiting() {
			if r.Tablet != 1 || r.Number < 2 || slices.Contains(kept, r) {
				t.Errorf("waits: %v", r)
			}
		}
		if n := len(b.Waiting()); n != 3 {
			t.Errorf("%d records wait, not 3", n)
		}
	}
}
