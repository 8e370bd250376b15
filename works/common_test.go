package works_test

import (
	"encoding/hex"
	"reflect"
	"testing"

	"blazon/api"
	"blazon/book"
	"blazon/sheet"
	"blazon/works"
)

const (
	roundType = "type 5 2 0 1000 round 60: field white; rim red 8"
	whiteRoll = "roll 1 2 1 7 0 120 1000"
)

// plain is a setup with strips as wide as half a roll.
func plain() api.Setup {
	return api.Setup{
		Rules:      api.Shelf{MinWidth: 20, MinLength: 5, Life: [3]int{3650, 2000, 1000}},
		StripWidth: 60,
		Ageing:     api.Ageing{Keep: [4]int{900, 850, 800, 950}},
	}
}

func must(t *testing.T, what string, err api.Errno) {
	t.Helper()
	if err != api.OK {
		t.Fatalf("%s: error %d", what, err)
	}
}

// open opens works that have to be there.
func open(t *testing.T, c api.Setup, d *book.Disk) *works.Works {
	t.Helper()
	w, err := works.Open(c, d)
	must(t, "Open", err)
	return w
}

// fresh returns works on a new disk that have carried out lines.
func fresh(t *testing.T, lines ...string) *works.Works {
	t.Helper()
	w := open(t, plain(), book.NewDisk())
	do(t, w, lines...)
	return w
}

// do carries out lines that have no error.
func do(t *testing.T, w *works.Works, lines ...string) {
	t.Helper()
	for _, line := range lines {
		_, err := w.Do(line)
		must(t, line, err)
	}
}

// answers fails the test if a line does not have this answer.
func answers(t *testing.T, w *works.Works, line, want string) {
	t.Helper()
	if got, err := w.Do(line); got != want || err != api.OK {
		t.Errorf("%s: %q, error %d, not %q", line, got, err, want)
	}
}

// fails fails the test if a line does not have this error, an empty answer, and no effect.
func fails(t *testing.T, w *works.Works, line string, want api.Errno) {
	t.Helper()
	before := viewOf(w)
	if got, err := w.Do(line); got != "" || err != want {
		t.Errorf("%.200q: %q, error %d, not %d", line, got, err, want)
	}
	if after := viewOf(w); !reflect.DeepEqual(after, before) {
		t.Errorf("%.200q has an error and changes %+v to %+v", line, before, after)
	}
}

// view is all that can be seen of works.
type view struct {
	lines   []string
	signs   []api.Made
	items   []api.Sheet
	pieces  []api.Piece
	balance api.Balance
	records []api.Record
	waiting []api.Record
	forks   []api.Fork
	types   [][]api.Type // on each of viewDays
}

// viewDays are the days on which the types of a view are looked up.
func viewDays() []int {
	return []int{0, 1, 9, 10, 11, 40, 99, 100, 500, 999, 1000, 1001, 99999, 100000}
}

func viewOf(w *works.Works) view {
	v := partsView(w.Shelf(), w.Book())
	v.lines, v.signs = w.Lines(), w.Signs()
	for _, day := range viewDays() {
		types, _ := w.Types(day)
		v.types = append(v.types, types)
	}
	return v
}

// partsView is the part of a view that a shelf and a book make.
func partsView(s *sheet.Store, b *book.Book) view {
	return view{
		items: s.Items(), pieces: s.Pieces(), balance: s.Balance(),
		records: b.Records(), waiting: b.Waiting(), forks: b.Forks(),
	}
}

// same fails the test if two views differ.
func same(t *testing.T, what string, got, want view) {
	t.Helper()
	if !reflect.DeepEqual(got, want) {
		t.Fatalf("%s: %+v, not %+v", what, got, want)
	}
}

// tabletLine returns the line that brings a record.
func tabletLine(t *testing.T, r api.Record) string {
	t.Helper()
	b, err := book.Pack(r)
	must(t, "Pack", err)
	return "tablet " + hex.EncodeToString(b)
}
