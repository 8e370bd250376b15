package book_test

import (
	"bytes"
	"encoding/binary"
	"hash/crc32"
	"math/rand/v2"
	"slices"
	"strings"
	"testing"

	"blazon/api"
	"blazon/book"
)

// open opens a log that has to be there.
func open(t *testing.T, d *book.Disk) *book.Log {
	t.Helper()
	l, err := book.Open(d)
	must(t, "Open", err)
	return l
}

// logOf returns a log with entries, on a disk.
func logOf(t *testing.T, d *book.Disk, entries ...string) *book.Log {
	t.Helper()
	l := open(t, d)
	for _, e := range entries {
		must(t, "Put", l.Put([]byte(e)))
	}
	return l
}

// wantEntries fails the test if a log does not have exactly these entries.
func wantEntries(t *testing.T, l *book.Log, want ...string) {
	t.Helper()
	var got []string
	for _, e := range l.Entries() {
		got = append(got, string(e))
	}
	if !slices.Equal(got, want) {
		t.Errorf("Entries: %q, not %q", got, want)
	}
}

// wantPut fails the test if Put does not have an error.
func wantPut(t *testing.T, l *book.Log, entry string, want api.Errno) {
	t.Helper()
	if err := l.Put([]byte(entry)); err != want {
		t.Errorf("Put: error %d, not %d", err, want)
	}
}

// P9.8: the bytes of entries, with their checksums, as the chapter's second example has them.
func TestPutBytes(t *testing.T) {
	d := book.NewDisk()
	l := logOf(t, d, "a")
	wantBytes(t, d, []byte{0x42, 0, 1, 'a', 0x33, 0xf7, 0x2f, 0x25})
	must(t, "Put", l.Put(nil))
	wantBytes(t, d, []byte{0x42, 0, 1, 'a', 0x33, 0xf7, 0x2f, 0x25, 0x42, 0, 0, 0x8c, 0x5f, 0x80, 0xbc})
	long := strings.Repeat("z", 2000)
	d = book.NewDisk()
	logOf(t, d, "123456789", long, "\x00", "")
	wantBytes(t, d, encodings("123456789", long, "\x00", ""))
}

// P9.8: Open finds the entries on a disk, and syncs it.
func TestOpen(t *testing.T) {
	long := strings.Repeat("B", 2000)
	for _, entries := range [][]string{nil, {""}, {"a"}, {"a", "", "b", long, "c"}, {long, long}, {"B\x00\x01a"}} {
		b := encodings(entries...)
		d := diskOf(t, nil, b)
		l := open(t, d)
		wantEntries(t, l, entries...)
		d.Crash(0)
		wantBytes(t, d, b)
		wantEntries(t, open(t, d), entries...)
	}
}

// P9.8: what is behind the last whole entry is cut off, from the first byte on that is not as it has to be.
func TestOpenCuts(t *testing.T) {
	whole := encodings("first", "")
	third := encodings("third")
	tooLong := referenceEncoding(make([]byte, 2001))
	tails := [][]byte{{0}, []byte("B"), tooLong, append(slices.Clone(tooLong), third...)}
	for n := 1; n < len(third); n++ {
		tails = append(tails, third[:n])
	}
	for i := range 8 * len(third) {
		wrong := slices.Clone(third)
		wrong[i/8] ^= 1 << (i % 8)
		tails = append(tails, wrong, append(slices.Clone(wrong), third...))
	}
	for _, tail := range tails {
		d := diskOf(t, slices.Concat(whole, tail)[:len(whole)+1], slices.Concat(whole, tail)[len(whole)+1:])
		l := open(t, d)
		wantEntries(t, l, "first", "")
		wantBytes(t, d, whole)
		must(t, "Put", l.Put([]byte("next")))
		d.Crash(0)
		wantEntries(t, open(t, d), "first", "", "next")
		wantEntries(t, open(t, diskOf(t, nil, tail)))
	}
}

// P9.8: an entry in other encodings than its own is none: another mark, or a length that is not its own.
func TestOpenWantsItsOwnEncoding(t *testing.T) {
	inner := encodings("in")
	for _, front := range [][]byte{{0x43, 0, 0}, {0, 0, 0}, {0x42, 0, 1}, {0x42, 1, 0}} {
		b := binary.BigEndian.AppendUint32(slices.Clone(front), crc32.ChecksumIEEE(front))
		d := diskOf(t, slices.Concat(inner, b), nil)
		wantEntries(t, open(t, d), "in")
		wantBytes(t, d, inner)
	}
}

// P9.8: Open makes one call of Cut or Sync, and no other one that can fail.
func TestOpenCalls(t *testing.T) {
	for _, tail := range [][]byte{nil, {1, 2}} {
		b := slices.Concat(encodings("a", "b"), tail)
		d := diskOf(t, nil, b)
		d.Arm(1)
		if l, err := book.Open(d); l != nil || err != api.ErrDown {
			t.Errorf("Open on a disk that goes down: error %d", err)
		}
		wantDown(t, d)
		if l, err := book.Open(d); l != nil || err != api.ErrDown {
			t.Errorf("Open on a disk that is down: error %d", err)
		}
		d.Crash(len(b))
		wantBytes(t, d, b)
		d.Arm(2)
		wantEntries(t, open(t, d), "a", "b")
		if err := d.Sync(); err != api.ErrDown {
			t.Errorf("Sync: error %d", err)
		}
	}
	for _, d := range []*book.Disk{nil, {}} {
		if l, err := book.Open(d); l != nil || err != api.ErrDown {
			t.Errorf("Open on a disk that is missing: error %d", err)
		}
	}
}

// P9.8: Put makes one call of Append and one of Sync; where one fails, the log keeps the entries that it had.
func TestPutCalls(t *testing.T) {
	want := encodings("a", "bc")
	for n, keep := range map[int]int{1: 8, 2: len(want)} {
		d := book.NewDisk()
		l := logOf(t, d, "a")
		d.Arm(n)
		wantPut(t, l, "bc", api.ErrDown)
		wantEntries(t, l, "a")
		wantPut(t, l, "bc", api.ErrDead)
		d.Crash(1000)
		wantBytes(t, d, want[:keep])
		wantEntries(t, l, "a")
	}
	d := book.NewDisk()
	l := logOf(t, d, "a")
	d.Arm(3)
	must(t, "Put", l.Put([]byte("bc")))
	if err := d.Sync(); err != api.ErrDown {
		t.Errorf("Sync: error %d", err)
	}
}

// P9.8: the errors of Put, in their order.
func TestPutErrors(t *testing.T) {
	long := strings.Repeat("a", 2001)
	for _, l := range []*book.Log{nil, {}} {
		wantPut(t, l, "a", api.ErrDown)
		wantPut(t, l, long, api.ErrDown)
		wantPut(t, l, "a", api.ErrDown)
		wantEntries(t, l)
	}
	d := book.NewDisk()
	l := logOf(t, d, "a")
	wantPut(t, l, long, api.ErrArg)
	wantBytes(t, d, encodings("a"))
	must(t, "Put", l.Put([]byte(long[:2000])))
	wantEntries(t, l, "a", long[:2000])
	d.Arm(1)
	if err := d.Sync(); err != api.ErrDown {
		t.Errorf("Sync: error %d", err)
	}
	wantPut(t, l, long, api.ErrArg)
	wantPut(t, l, "b", api.ErrDown)
	wantPut(t, l, "b", api.ErrDead)
	wantPut(t, l, long, api.ErrDead)
	wantEntries(t, l, "a", long[:2000])
	d.Crash(0)
	wantPut(t, l, "b", api.ErrDead)
}

// P9.7: all logs that were opened on a disk before it lost power are dead, also where it was up; those on its copies, and those that
// are opened later, are not.
func TestCrashKillsLogs(t *testing.T) {
	d := book.NewDisk()
	first := logOf(t, d, "a")
	second := open(t, d)
	other := d.Copy()
	onCopy := open(t, other)
	d.Crash(0)
	for _, l := range []*book.Log{first, second} {
		wantPut(t, l, "b", api.ErrDead)
		wantPut(t, l, strings.Repeat("b", 2001), api.ErrDead)
		wantEntries(t, l, "a")
	}
	wantBytes(t, d, encodings("a"))
	must(t, "Put", onCopy.Put([]byte("c")))
	third := logOf(t, d, "d")
	wantEntries(t, third, "a", "d")
	other.Crash(0)
	must(t, "Put", third.Put([]byte("e")))
	wantPut(t, onCopy, "e", api.ErrDead)
	d.Crash(0)
	d.Crash(0)
	wantPut(t, third, "f", api.ErrDead)
	wantEntries(t, open(t, d), "a", "d", "e")
}

// P9.8: a log keeps none of the bytes that it is given, and gives none of its own; lists are read up to their length alone.
func TestLogCopiesEntries(t *testing.T) {
	d := book.NewDisk()
	l := open(t, d)
	long := []byte("abcdef")
	must(t, "Put", l.Put(long[:3]))
	long[0] = 'x'
	must(t, "Put", l.Put([]byte("gh")))
	for _, l := range []*book.Log{l, open(t, d)} {
		entries := l.Entries()
		entries[0][1] = 'x'
		_ = append(entries[0], "yyyyyyyyyyyyyyyyy"...)
		entries[1] = nil
		wantEntries(t, l, "abc", "gh")
	}
	if string(long) != "xbcdef" {
		t.Errorf("Put changes its argument to %q", long)
	}
}

// P9.13: behind a loss of power at any operation, with any number of bytes kept, Open finds what was acknowledged, in order, and
// perhaps the entry that was under way; and so behind losses of power while it opens.
func TestCrashAtEveryOperation(t *testing.T) {
	entries := []string{"one", "", "three", strings.Repeat("B", 30)}
	for n := 1; n <= 2*len(entries)+2; n++ {
		for keep := -1; keep <= 40; keep++ {
			d := book.NewDisk()
			d.Arm(n)
			acknowledged := 0
			if l, err := book.Open(d); err == api.OK {
				for acknowledged < len(entries) && l.Put([]byte(entries[acknowledged])) == api.OK {
					acknowledged++
				}
			}
			d.Crash(keep)
			d.Arm(1)
			if _, err := book.Open(d); err != api.ErrDown {
				t.Errorf("Open: error %d", err)
			}
			d.Crash(keep / 2)
			got := open(t, d).Entries()
			if len(got) < acknowledged || len(got) > acknowledged+1 || len(got) > len(entries) {
				t.Fatalf("down at operation %d with %d kept: %d entries behind %d Puts", n, keep, len(got), acknowledged)
			}
			for i, e := range got {
				if string(e) != entries[i] {
					t.Errorf("entry %d: %q, not %q", i, e, entries[i])
				}
			}
		}
	}
}

// P9.13: whatever happens to a disk and its logs, the entries of all Puts that returned OK stay.
func TestCrashesAgainstReference(t *testing.T) {
	r := rand.New(rand.NewPCG(9, 13))
	for range 300 {
		d := book.NewDisk()
		l := open(t, d)
		var sure, seen []string // what was acknowledged, and all that was put since the disk lost power
		for range 30 {
			switch r.IntN(5) {
			case 0:
				d.Arm(r.IntN(4))
			case 1:
				d.Crash(upTo(r, -1, 20))
				next, err := book.Open(d)
				for err != api.OK {
					d.Crash(upTo(r, -1, 20))
					d.Arm(r.IntN(2))
					next, err = book.Open(d)
				}
				l = next
				var got []string
				for _, e := range l.Entries() {
					got = append(got, string(e))
				}
				if !slices.Equal(got, sure) && !slices.Equal(got, seen) {
					t.Fatalf("Entries: %q, not %q or %q", got, sure, seen)
				}
				sure, seen = got, slices.Clone(got)
			default:
				entry := bytes.Repeat([]byte{byte(r.IntN(3)) + 0x41}, r.IntN(6))
				switch l.Put(entry) {
				case api.OK:
					sure = append(sure, string(entry))
					seen = slices.Clone(sure)
				case api.ErrDown:
					seen = append(slices.Clone(sure), string(entry))
				}
				wantEntries(t, l, sure...)
			}
		}
	}
}
