package book_test

import (
	"bytes"
	"math"
	"math/rand/v2"
	"slices"
	"testing"

	"blazon/api"
	"blazon/book"
)

// diskOf returns a disk with bytes that are safe, and others that are loose.
func diskOf(t *testing.T, safe, loose []byte) *book.Disk {
	t.Helper()
	d := book.NewDisk()
	must(t, "Append", d.Append(safe))
	must(t, "Sync", d.Sync())
	must(t, "Append", d.Append(loose))
	return d
}

// wantBytes fails the test if a disk is not up or does not have these bytes.
func wantBytes(t *testing.T, d *book.Disk, want []byte) {
	t.Helper()
	if got, err := d.Read(); err != api.OK || !bytes.Equal(got, want) || d.Down() {
		t.Errorf("Read: %q, error %d, down: %t, not %q", got, err, d.Down(), want)
	}
}

// wantDown fails the test if a disk is not down in whatever is asked of it.
func wantDown(t *testing.T, d *book.Disk) {
	t.Helper()
	if !d.Down() {
		t.Error("the disk is not down")
	}
	if b, err := d.Read(); err != api.ErrDown || len(b) != 0 {
		t.Errorf("Read: %q, error %d", b, err)
	}
	for _, err := range []api.Errno{d.Append([]byte("x")), d.Append(nil), d.Sync(), d.Cut(0), d.Cut(-1), d.Cut(math.MaxInt)} {
		if err != api.ErrDown {
			t.Errorf("a call of a disk that is down: error %d", err)
		}
	}
}

// P9.7: a new disk is up, with no bytes.
func TestNewDisk(t *testing.T) {
	d, o := book.NewDisk(), book.NewDisk()
	wantBytes(t, d, nil)
	must(t, "Append", d.Append([]byte("abc")))
	wantBytes(t, d, []byte("abc"))
	wantBytes(t, o, nil)
}

// P9.7: Append puts bytes at the end, Sync makes them safe, and Crash keeps the first loose ones.
func TestDisk(t *testing.T) {
	for _, c := range []struct {
		keep int
		want string
	}{{0, "abc"}, {1, "abcd"}, {2, "abcde"}, {3, "abcdef"}, {4, "abcdef"}, {-1, "abc"}, {math.MinInt, "abc"}, {math.MaxInt, "abcdef"}} {
		d := diskOf(t, []byte("abc"), []byte("de"))
		must(t, "Append", d.Append(nil))
		must(t, "Append", d.Append([]byte("f")))
		wantBytes(t, d, []byte("abcdef"))
		d.Crash(c.keep)
		wantBytes(t, d, []byte(c.want))
		d.Crash(0)
		wantBytes(t, d, []byte(c.want))
		must(t, "Append", d.Append([]byte("g")))
		wantBytes(t, d, []byte(c.want+"g"))
	}
}

// P9.7: Cut leaves the first bytes, all of them safe.
func TestCut(t *testing.T) {
	for n := range 6 {
		d := diskOf(t, []byte("abc"), []byte("de"))
		must(t, "Cut", d.Cut(n))
		wantBytes(t, d, []byte("abcde")[:n])
		must(t, "Append", d.Append([]byte("xy")))
		d.Crash(1)
		wantBytes(t, d, append([]byte("abcde")[:n:n], 'x'))
	}
	d := diskOf(t, []byte("abc"), []byte("de"))
	for _, n := range outside(0, 5) {
		if err := d.Cut(n); err != api.ErrArg {
			t.Errorf("Cut(%d): error %d", n, err)
		}
	}
	wantBytes(t, d, []byte("abcde"))
	d.Crash(0)
	wantBytes(t, d, []byte("abc"))
}

// P9.7: the call that was armed fails and is not carried out; what was not to be OK does not count.
func TestArm(t *testing.T) {
	calls := map[string]func(d *book.Disk) api.Errno{
		"Append": func(d *book.Disk) api.Errno { return d.Append([]byte("x")) },
		"empty":  func(d *book.Disk) api.Errno { return d.Append(nil) },
		"Sync":   func(d *book.Disk) api.Errno { return d.Sync() },
		"Cut":    func(d *book.Disk) api.Errno { return d.Cut(1) },
	}
	for name, call := range calls {
		for n := 1; n <= 4; n++ {
			d := diskOf(t, []byte("ab"), []byte("cd"))
			d.Arm(n)
			for range n - 1 {
				must(t, "Append", d.Append([]byte("e")))
				if err := d.Cut(100); err != api.ErrArg {
					t.Errorf("Cut: error %d", err)
				}
				if _, err := d.Read(); err != api.OK {
					t.Errorf("Read: error %d", err)
				}
			}
			if err := call(d); err != api.ErrDown {
				t.Errorf("%s as call %d: error %d", name, n, err)
			}
			wantDown(t, d)
			d.Crash(100)
			wantBytes(t, d, append([]byte("abcd"), "eee"[:n-1]...))
			must(t, name, call(d))
		}
	}
}

// P9.7: the bytes that were loose when the disk went down stay loose until it loses power.
func TestDownKeepsLooseBytes(t *testing.T) {
	for keep, want := range []string{"ab", "abc", "abcd", "abcd"} {
		d := diskOf(t, []byte("ab"), []byte("cd"))
		d.Arm(1)
		if err := d.Sync(); err != api.ErrDown {
			t.Errorf("Sync: error %d", err)
		}
		d.Crash(keep)
		wantBytes(t, d, []byte(want))
	}
}

// P9.7: with a number less than 1 nothing is armed; a further Arm takes the place of the first one; a Crash ends it, and what it
// made fail is not armed again.
func TestArmEnds(t *testing.T) {
	for _, n := range []int{0, -1, math.MinInt} {
		d := book.NewDisk()
		d.Arm(2)
		d.Arm(n)
		for range 5 {
			must(t, "Sync", d.Sync())
		}
	}
	d := book.NewDisk()
	d.Arm(1)
	d.Arm(3)
	must(t, "Sync", d.Sync())
	must(t, "Sync", d.Sync())
	if err := d.Sync(); err != api.ErrDown {
		t.Errorf("Sync: error %d", err)
	}
	d.Arm(1)
	d.Crash(0)
	for range 5 {
		must(t, "Sync", d.Sync())
	}
	d.Arm(2)
	must(t, "Sync", d.Sync())
	d.Crash(0)
	must(t, "Sync", d.Sync())
	d.Arm(math.MaxInt)
	must(t, "Sync", d.Sync())
}

// P9.7: a nil disk is down, and so is a zero value.
func TestDiskMissing(t *testing.T) {
	for _, d := range []*book.Disk{nil, {}} {
		for range 2 {
			wantDown(t, d)
			if d.Copy() != nil {
				t.Error("a disk that is missing has a copy")
			}
			d.Arm(1)
			d.Crash(5)
		}
	}
}

// P9.7: a disk keeps none of the bytes that it is given, and gives none of its own; lists are read up to their length alone.
func TestDiskCopiesBytes(t *testing.T) {
	long := []byte("abcdef")
	d := book.NewDisk()
	must(t, "Append", d.Append(long[:3]))
	must(t, "Append", d.Append(long[:0]))
	long[0] = 'x'
	wantBytes(t, d, []byte("abc"))
	got, _ := d.Read()
	got[1] = 'x'
	_ = append(got[:1], 'y', 'z')
	wantBytes(t, d, []byte("abc"))
	if string(long) != "xbcdef" {
		t.Errorf("Append changes its argument to %q", long)
	}
}

// P9.7: a copy is the same in all that can be seen later, and independent.
func TestDiskCopy(t *testing.T) {
	d := diskOf(t, []byte("abc"), []byte("de"))
	d.Arm(2)
	c := d.Copy()
	must(t, "Append", c.Append([]byte("f")))
	wantBytes(t, d, []byte("abcde"))
	must(t, "Append", d.Append([]byte("gh")))
	wantBytes(t, c, []byte("abcdef"))
	for _, x := range []*book.Disk{c, d} {
		if err := x.Sync(); err != api.ErrDown {
			t.Errorf("Sync: error %d", err)
		}
		wantDown(t, x.Copy())
	}
	c.Crash(1)
	wantDown(t, d)
	wantBytes(t, c, []byte("abcd"))
	d.Crash(4)
	wantBytes(t, d, []byte("abcdegh"))
	wantBytes(t, c, []byte("abcd"))
}

// P9.7: a disk does what a reel does, whatever is called.
func TestDiskAgainstReference(t *testing.T) {
	r := rand.New(rand.NewPCG(9, 7))
	for range 500 {
		d, want := book.NewDisk(), &reel{}
		for range 40 {
			var got, err api.Errno
			switch n := upTo(r, -2, 12); r.IntN(8) {
			case 0, 1:
				b := slices.Repeat([]byte{byte(n)}, max(n, 0))
				got, err = d.Append(b), want.append(b)
			case 2:
				got, err = d.Sync(), want.sync()
			case 3:
				got, err = d.Cut(n), want.cut(n)
			case 4:
				d.Arm(n / 2)
				if want.armed = max(n/2, 0); want.down {
					want.armed = 0
				}
			case 5:
				if want.down || n < 2 {
					d.Crash(n)
					want.crash(n)
				}
			case 6:
				c, other := d.Copy(), want.clone()
				d.Crash(0)
				d, want = c, other
			case 7:
				if d.Down() {
					wantDown(t, d)
				}
			}
			if got != err || d.Down() != want.down {
				t.Fatalf("error %d, down: %t, not error %d, down: %t", got, d.Down(), err, want.down)
			}
			if !want.down {
				wantBytes(t, d, want.bytes)
			}
		}
	}
}
