package book_test

import (
	"bytes"
	"math/rand/v2"
	"slices"
	"testing"

	"blazon/api"
	"blazon/book"
)

// packed returns the Pack of a record that has to be valid.
func packed(t *testing.T, r api.Record) []byte {
	t.Helper()
	b, err := book.Pack(r)
	must(t, "Pack", err)
	return b
}

// anyRecord returns a valid record from the whole range.
func anyRecord(r *rand.Rand) api.Record {
	q := api.Record{Tablet: upTo(r, 1, 8), Number: upTo(r, 1, 1000000), Hour: upTo(r, 0, 10000000), Sign: upTo(r, 1, 1000000000)}
	q.Field, q.Value = upTo(r, 1, 6), upTo(r, -(1<<40), 1<<40)
	for t := range q.Seen {
		q.Seen[t] = upTo(r, 0, 1000000)
	}
	q.Seen[q.Tablet-1] = q.Number - 1
	return q
}

// P9.1: the bytes of a record, the most significant one first.
func TestPack(t *testing.T) {
	r := record(2, 0x000a0b, 0x010203, 0x1a0b0c0d, 4, 5, 0x000102, 0, 3, 0, 0, 0, 0, 0x0f4240)
	want := []byte{
		2, 0, 0, 0x0a, 0x0b, 0, 1, 2, 3, 0x1a, 0x0b, 0x0c, 0x0d, 4, 0, 0, 1, 0, 0, 0, 0, 5,
		0, 0, 1, 2, 0, 0, 0x0a, 0x0a, 0, 0, 0, 3, 0, 0, 0, 0, 0, 0, 0, 0, 0, 0, 0, 0, 0, 0, 0, 0, 0, 0x0f, 0x42, 0x40,
	}
	if got := packed(t, r); !bytes.Equal(got, want) {
		t.Errorf("Pack:\n%v, not\n%v", got, want)
	}
	r.Value = -1
	copy(want[14:], []byte{0, 0, 0, 0xff, 0xff, 0xff, 0xff, 0xff})
	if got := packed(t, r); !bytes.Equal(got, want) {
		t.Errorf("Pack of the value -1:\n%v, not\n%v", got, want)
	}
	if b := packed(t, least()); !bytes.Equal(b[14:22], make([]byte, 8)) {
		t.Errorf("the least value is packed as %v", b[14:22])
	}
	if b := packed(t, greatest()); !bytes.Equal(b[14:22], []byte{0, 0, 2, 0, 0, 0, 0, 0}) {
		t.Errorf("the greatest value is packed as %v", b[14:22])
	}
}

// P9.1: Pack of what is not valid.
func TestPackErrors(t *testing.T) {
	for _, r := range wrongRecords() {
		if b, err := book.Pack(r); err != api.ErrRecord || len(b) != 0 {
			t.Errorf("Pack(%v): %v, error %d", r, b, err)
		}
	}
}

// P9.1: Unpack returns the record that was packed; the bytes are read up to their length alone, and not changed.
func TestUnpack(t *testing.T) {
	r := rand.New(rand.NewPCG(9, 1))
	records := []api.Record{good(), greatest(), least()}
	for range 300 {
		records = append(records, anyRecord(r))
	}
	for _, q := range records {
		b := packed(t, q)
		long := append(slices.Clone(b), 1, 2, 3)
		got, err := book.Unpack(long[:len(b)])
		if err != api.OK || got != q {
			t.Errorf("Unpack of the Pack of %v: %v, error %d", q, got, err)
		}
		if !bytes.Equal(long, append(slices.Clone(b), 1, 2, 3)) {
			t.Error("Unpack changes its argument")
		}
	}
}

// wantNoRecord fails the test if bytes are those of a record.
func wantNoRecord(t *testing.T, b []byte) {
	t.Helper()
	if r, err := book.Unpack(b); err != api.ErrForm || r != (api.Record{}) {
		t.Errorf("Unpack(%v): %v, error %d", b, r, err)
	}
}

// P9.1: Unpack of bytes of which there is no record: too few, too many, or not valid.
func TestUnpackErrors(t *testing.T) {
	wantNoRecord(t, nil)
	wantNoRecord(t, []byte{})
	b := packed(t, good())
	for n := range b {
		wantNoRecord(t, b[:n])
	}
	wantNoRecord(t, append(slices.Clone(b), 0))
	wantNoRecord(t, append(slices.Clone(b), b...))
	wantNoRecord(t, make([]byte, len(b)))
	for _, c := range []struct {
		at    int
		bytes []byte
	}{
		{0, []byte{0}}, {0, []byte{9}}, {0, []byte{255}}, {0, []byte{1}},
		{1, []byte{0, 0, 0, 0}}, {1, []byte{0, 0, 0, 4}}, {1, []byte{255, 255, 255, 255}},
		{5, []byte{0, 0x98, 0x96, 0x81}}, {5, []byte{255, 0, 0, 0}},
		{9, []byte{0, 0, 0, 0}}, {9, []byte{0x3b, 0x9a, 0xca, 0x01}}, {9, []byte{255, 255, 255, 255}},
		{13, []byte{0}}, {13, []byte{7}}, {13, []byte{255}},
		{14, []byte{0, 0, 2, 0, 0, 0, 0, 1}}, {14, []byte{1, 0, 1, 0, 0, 0, 0, 0}}, {14, []byte{255, 255, 255, 255, 255, 255, 255, 255}},
		{14, []byte{0x80, 0, 0, 0, 0, 0, 0, 0}}, {14, []byte{0x80, 0, 1, 0, 0, 0, 0, 0}}, {14, []byte{0x80, 0, 0, 255, 255, 255, 255, 255}},
		{22, []byte{0, 0x0f, 0x42, 0x41}}, {22, []byte{255, 255, 255, 255}}, {26, []byte{0, 0, 0, 1}}, {26, []byte{0, 0, 0, 3}},
		{50, []byte{0, 0x0f, 0x42, 0x41}},
	} {
		wrong := slices.Clone(b)
		copy(wrong[c.at:], c.bytes)
		wantNoRecord(t, wrong)
	}
}

// P9.1: whatever bytes are changed, what Unpack returns has these bytes as its Pack.
func TestUnpackOfAnyBytes(t *testing.T) {
	r := rand.New(rand.NewPCG(9, 101))
	right := 0
	for range 3000 {
		b := packed(t, anyRecord(r))
		for range upTo(r, 1, 2) {
			b[r.IntN(len(b))] = byte(r.IntN(256))
		}
		q, err := book.Unpack(b)
		switch {
		case err == api.OK && bytes.Equal(packed(t, q), b):
			right++
		case err != api.ErrForm || q != api.Record{}:
			t.Errorf("Unpack(%v): %v, error %d", b, q, err)
		}
	}
	if right == 0 || right == 3000 {
		t.Errorf("%d of 3000 are right: the test looks at one side alone", right)
	}
}
