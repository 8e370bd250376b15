package book_test

import (
	"hash/crc32"
	"math/rand/v2"
	"slices"
	"testing"

	"blazon/api"
	"blazon/book"
)

// The tests hold the package against a second way to the same results: a list of records of which everything is worked out
// anew, as the chapter defines it, and a disk that knows of each byte whether it is safe.

// shelf is a list of different records.
type shelf []api.Record

// fields returns all numbers of a record, in the order of the chapter.
func fields(r api.Record) []int {
	return append([]int{r.Tablet, r.Number, r.Hour, r.Sign, r.Field, r.Value}, r.Seen[:]...)
}

// sorted returns records in the order of records.
func sorted(records []api.Record) []api.Record {
	list := slices.Clone(records)
	slices.SortFunc(list, func(r, q api.Record) int { return slices.Compare(fields(r), fields(q)) })
	return list
}

// forkedAt returns the least number at which a tablet is forked, or 0.
func (s shelf) forkedAt(tablet int) int {
	least := 0
	for i, r := range s {
		for _, q := range s[:i] {
			if r.Tablet == tablet && q.Tablet == tablet && r.Number == q.Number && (least == 0 || r.Number < least) {
				least = r.Number
			}
		}
	}
	return least
}

// counting returns what can be shown to count, from below: it is gone through again and again until nothing is found.
func (s shelf) counting() []api.Record {
	var counting []api.Record
	var forks [9]int
	for t := 1; t <= 8; t++ {
		forks[t] = s.forkedAt(t)
	}
	for more := true; more; {
		more = false
		for _, r := range s {
			if !slices.Contains(counting, r) && shown(r, counting, forks) {
				counting = append(counting, r)
				more = true
			}
		}
	}
	return sorted(counting)
}

// shown returns whether a record counts, if these others do.
func shown(r api.Record, counting []api.Record, forks [9]int) bool {
	if forks[r.Tablet] != 0 && r.Number >= forks[r.Tablet] {
		return false
	}
	for t := 1; t <= 8; t++ {
		for n := 1; n <= r.Seen[t-1]; n++ {
			if forks[t] != 0 && n >= forks[t] {
				break
			}
			if !slices.ContainsFunc(counting, func(q api.Record) bool { return q.Tablet == t && q.Number == n }) {
				return false
			}
		}
	}
	return true
}

// waiting returns the records that do not count.
func (s shelf) waiting() []api.Record {
	counting := s.counting()
	return sorted(slices.DeleteFunc(slices.Clone(s), func(r api.Record) bool { return slices.Contains(counting, r) }))
}

// values returns the values of the heads of a sign and field.
func (s shelf) values(sign, field int) []int {
	about := slices.DeleteFunc(s.counting(), func(r api.Record) bool { return r.Sign != sign || r.Field != field })
	var values []int
	for _, r := range about {
		if !slices.ContainsFunc(about, func(q api.Record) bool { return q != r && q.Seen[r.Tablet-1] >= r.Number }) {
			values = append(values, r.Value)
		}
	}
	slices.Sort(values)
	return slices.Compact(values)
}

// history returns the records of a sign that count, up to an hour.
func (s shelf) history(sign int) []api.Record {
	about := slices.DeleteFunc(s.counting(), func(r api.Record) bool { return r.Sign != sign })
	slices.SortStableFunc(about, func(r, q api.Record) int { return r.Hour - q.Hour })
	return about
}

// wantBook fails the test if a book does not show what a shelf of its records does. It is asked for the signs 1 to 3, the fields 1
// to 3 and the hours 0 to 4.
func wantBook(t *testing.T, b *book.Book, s shelf) {
	t.Helper()
	wantRecords(t, "Records", b.Records(), sorted(s))
	wantRecords(t, "Waiting", b.Waiting(), s.waiting())
	var forks []api.Fork
	var disputes []api.Case
	var signs []int
	for tablet := 1; tablet <= 8; tablet++ {
		if n := s.forkedAt(tablet); n != 0 {
			forks = append(forks, api.Fork{Tablet: tablet, Number: n})
		}
	}
	for sign := 1; sign <= 3; sign++ {
		history, err := b.History(sign)
		must(t, "History", err)
		wantRecords(t, "History", history, s.history(sign))
		if len(s.history(sign)) > 0 {
			signs = append(signs, sign)
		}
		for field := 1; field <= 3; field++ {
			values := s.values(sign, field)
			wantValues(t, b, sign, field, values...)
			if len(values) > 1 {
				disputes = append(disputes, api.Case{Sign: sign, Field: field})
			}
		}
	}
	if got := b.Forks(); !slices.Equal(got, forks) {
		t.Errorf("Forks of %v: %v, not %v", s, got, forks)
	}
	if got := b.Disputes(); !slices.Equal(got, disputes) {
		t.Errorf("Disputes of %v: %v, not %v", s, got, disputes)
	}
	if got := b.Signs(); !slices.Equal(got, signs) {
		t.Errorf("Signs of %v: %v, not %v", s, got, signs)
	}
	for hour := range 5 {
		past, err := b.AsOf(hour)
		must(t, "AsOf", err)
		old := shelf(slices.DeleteFunc(s.counting(), func(r api.Record) bool { return r.Hour > hour }))
		wantRecords(t, "Records of AsOf", past.Records(), old)
		wantRecords(t, "Waiting of AsOf", past.Waiting(), old.waiting())
	}
}

// upTo returns a number from least to most.
func upTo(r *rand.Rand, least, most int) int {
	return least + r.IntN(most-least+1)
}

// someRecords returns different valid records with few tablets, numbers, signs and fields, of which some have seen others.
func someRecords(r *rand.Rand) shelf {
	var s shelf
	tablets := r.Perm(8)[:upTo(r, 1, 3)]
	numbers, busy := upTo(r, 1, 4), upTo(r, 1, 4)
	for range upTo(r, 0, 12) {
		q := api.Record{Tablet: tablets[r.IntN(len(tablets))] + 1, Number: upTo(r, 1, numbers), Hour: r.IntN(4)}
		q.Sign, q.Field, q.Value = upTo(r, 1, 2), upTo(r, 2, 3), r.IntN(3)
		for _, t := range tablets {
			if r.IntN(4) < busy {
				q.Seen[t] = max(0, upTo(r, -2, numbers))
			}
		}
		q.Seen[q.Tablet-1] = q.Number - 1
		if !slices.Contains(s, q) {
			s = append(s, q)
		}
	}
	return s
}

// someField plays what happens in the field: tablets with books of their own write, are joined, and are copied now and then.
// It returns the books.
func someField(t *testing.T, r *rand.Rand, copied int) []*book.Book {
	t.Helper()
	books := []*book.Book{book.New(), book.New(), book.New()}
	tablets := []int{3, 1, 8}
	for range upTo(r, 0, 15) {
		i := r.IntN(len(books))
		switch r.IntN(3) {
		case 0:
			_, err := books[i].Join(books[r.IntN(len(books))])
			must(t, "Join", err)
		default:
			tablet := tablets[i]
			if r.IntN(100) < copied {
				tablet = tablets[r.IntN(len(tablets))]
			}
			_, err := books[i].Write(tablet, r.IntN(4), upTo(r, 1, 2), upTo(r, 2, 3), r.IntN(3))
			if err != api.OK && copied == 0 {
				t.Errorf("Write: error %d", err)
			}
		}
	}
	return books
}

// reel is a disk that knows of each byte whether it is safe.
type reel struct {
	bytes []byte
	safe  []bool
	down  bool
	armed int
}

func (d *reel) clone() *reel {
	return &reel{bytes: slices.Clone(d.bytes), safe: slices.Clone(d.safe), down: d.down, armed: d.armed}
}

// carry carries out a call that has no other error than that of the disk.
func (d *reel) carry(call func()) api.Errno {
	if d.down {
		return api.ErrDown
	}
	if d.armed == 1 {
		d.armed, d.down = 0, true
		return api.ErrDown
	}
	d.armed = max(0, d.armed-1)
	call()
	return api.OK
}

func (d *reel) append(b []byte) api.Errno {
	return d.carry(func() {
		d.bytes = append(d.bytes, b...)
		d.safe = append(d.safe, make([]bool, len(b))...)
	})
}

func (d *reel) sync() api.Errno {
	return d.carry(func() {
		for i := range d.safe {
			d.safe[i] = true
		}
	})
}

func (d *reel) cut(n int) api.Errno {
	if !d.down && (n < 0 || n > len(d.bytes)) {
		return api.ErrArg
	}
	return d.carry(func() {
		d.bytes, d.safe = d.bytes[:n], d.safe[:n]
		for i := range d.safe {
			d.safe[i] = true
		}
	})
}

func (d *reel) crash(keep int) {
	var bytes []byte
	for i, x := range d.bytes {
		if !d.safe[i] {
			keep--
		}
		if d.safe[i] || keep >= 0 {
			bytes = append(bytes, x)
		}
	}
	d.bytes, d.safe, d.down, d.armed = bytes, slices.Repeat([]bool{true}, len(bytes)), false, 0
}

// referenceEncoding returns the encoding of an entry of any length.
func referenceEncoding(entry []byte) []byte {
	b := append([]byte{0x42, byte(len(entry) / 256), byte(len(entry) % 256)}, entry...)
	sum := crc32.ChecksumIEEE(b)
	return append(b, byte(sum>>24), byte(sum>>16), byte(sum>>8), byte(sum))
}

// encodings returns the encodings of entries, one behind the other.
func encodings(entries ...string) []byte {
	var b []byte
	for _, e := range entries {
		b = append(b, referenceEncoding([]byte(e))...)
	}
	return b
}
