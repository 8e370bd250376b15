package works_test

import (
	"bytes"
	"reflect"
	"slices"
	"testing"

	"blazon/api"
	"blazon/book"
	"blazon/works"
)

// diskWith returns a disk with a log that has these entries.
func diskWith(t *testing.T, entries ...string) *book.Disk {
	t.Helper()
	d := book.NewDisk()
	l, err := book.Open(d)
	must(t, "book.Open", err)
	for _, e := range entries {
		must(t, "Put", l.Put([]byte(e)))
	}
	return d
}

// bytesOf returns the bytes of a disk that is up.
func bytesOf(t *testing.T, d *book.Disk) []byte {
	t.Helper()
	b, err := d.Read()
	must(t, "Read", err)
	return b
}

// P10.4: which setups are valid, at the limits and just beyond them; and that an invalid one comes first.
func TestOpenSetup(t *testing.T) {
	for _, c := range []struct {
		change func(c *api.Setup)
		want   api.Errno
	}{
		{func(c *api.Setup) {}, api.OK},
		{func(c *api.Setup) { c.StripWidth = 1 }, api.OK},
		{func(c *api.Setup) { c.StripWidth = 150 }, api.OK},
		{func(c *api.Setup) { c.StripWidth = 0 }, api.ErrArg},
		{func(c *api.Setup) { c.StripWidth = -1 }, api.ErrArg},
		{func(c *api.Setup) { c.StripWidth = 151 }, api.ErrArg},
		{func(c *api.Setup) { c.Ageing.Keep = [4]int{0, 1000, 0, 1000} }, api.OK},
		{func(c *api.Setup) { c.Ageing.Keep[0] = -1 }, api.ErrArg},
		{func(c *api.Setup) { c.Ageing.Keep[3] = 1001 }, api.ErrArg},
		{func(c *api.Setup) { c.Rules.MinWidth = 0 }, api.ErrArg},
		{func(c *api.Setup) { c.Rules.MinLength = 1001 }, api.ErrArg},
		{func(c *api.Setup) { c.Rules.Life[2] = -1 }, api.ErrArg},
	} {
		s := plain()
		c.change(&s)
		w, err := works.Open(s, book.NewDisk())
		if err != c.want || (w == nil) != (err != api.OK) {
			t.Errorf("Open with %+v: error %d, not %d", s, err, c.want)
		}
		l, err := works.Play(s, []string{"balance"})
		if err != c.want || (len(l) == 0) != (err != api.OK) {
			t.Errorf("Play with %+v: %v, error %d, not %d", s, l, err, c.want)
		}
		if c.want != api.OK {
			if _, err := works.Open(s, nil); err != c.want {
				t.Errorf("Open with %+v without a disk: error %d, not %d", s, err, c.want)
			}
		}
	}
}

// P10.4: the errors of book.Open.
func TestOpenDown(t *testing.T) {
	armed := diskWith(t, whiteRoll)
	armed.Arm(1)
	bad := diskWith(t, "balance")
	bad.Arm(1)
	for _, d := range []*book.Disk{nil, {}, armed, bad} {
		if w, err := works.Open(plain(), d); w != nil || err != api.ErrDown {
			t.Errorf("Open: error %d", err)
		}
		if !d.Down() {
			t.Error("the disk is up")
		}
		if w, err := works.Open(plain(), d); w != nil || err != api.ErrDown {
			t.Errorf("Open of a disk that is down: error %d", err)
		}
	}
	armed.Crash(0)
	if l := open(t, plain(), armed).Lines(); !slices.Equal(l, []string{whiteRoll}) {
		t.Errorf("Lines behind a loss of power: %q", l)
	}
}

// P10.4: entries that are no deeds that Do carries out at their places; the disk stays as it is.
func TestOpenForm(t *testing.T) {
	long := whiteRoll + string(bytes.Repeat([]byte{'0'}, 1000))
	for _, entries := range [][]string{
		{""}, {"balance"}, {"values 1 1"}, {"disputes"}, {"sign 1"}, {"nothing"}, {long},
		{"arm 1"}, {"crash 1"}, {"roll 1 2 1 7 0 120 1000 "}, {"hang 1 9 1200 11"},
		{whiteRoll, whiteRoll}, {whiteRoll, "make 5 2 10", roundType}, {whiteRoll, roundType, "sign 1"},
		{whiteRoll, roundType, "make 5 21 10"}, {whiteRoll, roundType, "make 5 2 10", "decide 1 1 1"}, {"tablet 00"},
	} {
		d := diskWith(t, entries...)
		must(t, "Append", d.Append([]byte{1, 2, 3}))
		d.Arm(7)
		before := d.Copy()
		w, err := works.Open(plain(), d)
		if w != nil || err != api.ErrForm {
			t.Errorf("Open of %.200q: error %d", entries, err)
		}
		if !reflect.DeepEqual(d, before) {
			t.Errorf("Open of %.200q changes the disk", entries)
		}
	}
}

// P10.4: the works are what the entries make; what is behind the last whole entry is cut off.
func TestOpenReplays(t *testing.T) {
	entries := []string{whiteRoll, roundType, "make 5 2 10", "hang 1 9 1200 11"}
	d := diskWith(t, entries...)
	whole := bytesOf(t, d)
	must(t, "Append", d.Append([]byte{0x42, 0}))
	w := open(t, plain(), d)
	if !slices.Equal(w.Lines(), entries) {
		t.Errorf("Lines: %q", w.Lines())
	}
	if !bytes.Equal(bytesOf(t, d), whole) {
		t.Error("the bytes behind the last entry are there still")
	}
	same(t, "Open", viewOf(w), viewOf(fresh(t, entries...)))
	answers(t, w, "sign 1", "5 2 3")
	do(t, w, "cover 1")
	if !slices.Equal(open(t, plain(), d).Lines(), append(entries, "cover 1")) {
		t.Error("the deed is not on the disk")
	}
}

// R7 and P10.5 to P10.7: nil works, and those of a zero value.
func TestNilWorks(t *testing.T) {
	for _, w := range []*works.Works{nil, {}} {
		for _, line := range []string{whiteRoll, "balance", "nothing", ""} {
			if answer, err := w.Do(line); answer != "" || err != api.ErrArg {
				t.Errorf("Do of %q: %q, error %d", line, answer, err)
			}
		}
		if len(w.Lines()) != 0 || w.Shelf() != nil || w.Book() != nil || len(w.Signs()) != 0 {
			t.Error("nil works have something")
		}
		if l, err := w.Types(0); len(l) != 0 || err != api.ErrArg {
			t.Errorf("Types: %v, error %d", l, err)
		}
		if l, err := w.Recall(7); len(l) != 0 || err != api.ErrArg {
			t.Errorf("Recall: %v, error %d", l, err)
		}
		if l, err := w.Due(0, 0, 1, 0); len(l) != 0 || err != api.ErrArg {
			t.Errorf("Due: %v, error %d", l, err)
		}
	}
}

// P10.6: new works have nothing.
func TestNewWorks(t *testing.T) {
	w := fresh(t)
	if len(w.Lines()) != 0 || len(w.Signs()) != 0 || len(w.Shelf().Items()) != 0 || len(w.Book().Records()) != 0 {
		t.Error("new works have something")
	}
	if l, err := w.Types(0); len(l) != 0 || err != api.OK {
		t.Errorf("Types: %v, error %d", l, err)
	}
	answers(t, w, "balance", "0 0 0 0 0")
	answers(t, w, "disputes", "-")
	answers(t, w, "values 1 1", "-")
}

// P10.6: the lines are the deeds, not what only looks and not what has an error.
func TestLines(t *testing.T) {
	w := fresh(t, whiteRoll, "balance", roundType, "disputes", "make 5 2 10", "values 1 1", "sign 1", "hang 1 9 1200 11")
	fails(t, w, "hang 1 9 1200 11", api.ErrState)
	want := []string{whiteRoll, roundType, "make 5 2 10", "hang 1 9 1200 11"}
	if l := w.Lines(); !slices.Equal(l, want) {
		t.Errorf("Lines: %q", l)
	}
}

// P10.6: the types of a day, in the order of their codes.
func TestTypes(t *testing.T) {
	w := fresh(t,
		"type 9 1 10 20 round 60: field white", "type 2 1 15 30 round 60: field red", "type 9 3 20 25 up 30: field blue",
		"type 5 1 0 100001 round 60: field green", "type 9 1 0 5 round 60: field brown",
	)
	for _, c := range []struct {
		day  int
		want []string
		err  api.Errno
	}{
		{0, []string{"round 60: field green", "round 60: field brown"}, api.OK},
		{5, []string{"round 60: field green"}, api.OK},
		{10, []string{"round 60: field green", "round 60: field white"}, api.OK},
		{19, []string{"round 60: field red", "round 60: field green", "round 60: field white"}, api.OK},
		{20, []string{"round 60: field red", "round 60: field green", "up 30: field blue"}, api.OK},
		{100000, []string{"round 60: field green"}, api.OK},
		{-1, nil, api.ErrArg},
		{100001, nil, api.ErrArg},
	} {
		l, err := w.Types(c.day)
		var texts []string
		for _, ty := range l {
			texts = append(texts, ty.Text)
		}
		if !slices.Equal(texts, c.want) || err != c.err {
			t.Errorf("Types of %d: %q, error %d", c.day, texts, err)
		}
	}
	l, _ := w.Types(20)
	if want := (api.Type{Code: 9, Grade: 3, From: 20, To: 25, Text: "up 30: field blue"}); l[2] != want {
		t.Errorf("Types: %+v", l[2])
	}
}

// R4 and P10.6: results are new memory, and the shelf and the book are copies.
func TestCopies(t *testing.T) {
	lines := []string{whiteRoll, roundType, "make 5 2 10", "hang 1 9 1200 11", "light 1 200 12", "light 1 190 400"}
	w, untouched := fresh(t, lines...), fresh(t, lines...)
	signs := w.Signs()
	signs[0].Pieces[0], signs[0].Measures[0].R, signs[1].Code = 99, 1, 77
	signs[0].Measures = append(signs[0].Measures[:1], api.Measure{Day: 3, R: 3})
	w.Lines()[0] = "?"
	types, _ := w.Types(5)
	types[0].Code = 8
	must(t, "Scrap", w.Shelf().Scrap(1))
	_, err := w.Book().Write(3, 0, 1, 1, 1)
	must(t, "Write", err)
	same(t, "the works", viewOf(w), viewOf(untouched))
	signs = w.Signs()
	do(t, w, "light 1 180 500", "cover 1", "make 5 1 10")
	if !reflect.DeepEqual(signs, untouched.Signs()) {
		t.Errorf("lines change what Signs has returned to %+v", signs)
	}
}
