package works_test

import (
	"fmt"
	"reflect"
	"slices"
	"strings"
	"testing"

	"blazon/api"
	"blazon/book"
	"blazon/works"
)

// wantSign fails the test if a sign is not this one.
func wantSign(t *testing.T, w *works.Works, want api.Made) {
	t.Helper()
	l := w.Signs()
	if len(l) < want.Number || !reflect.DeepEqual(l[want.Number-1], want) {
		t.Errorf("Signs: %+v, not %+v", l, want)
	}
}

// wantRecords fails the test if the last records of the book are not these, each as sign, field and value, by tablet 1 at the hour 0.
func wantRecords(t *testing.T, w *works.Works, want ...[3]int) {
	t.Helper()
	records := w.Book().Records()
	first := len(records) - len(want)
	if first < 0 {
		t.Fatalf("Records: %v", records)
	}
	for k, r := range records[first:] {
		n := first + k + 1
		if r != (api.Record{Tablet: 1, Number: n, Sign: want[k][0], Field: want[k][1], Value: want[k][2], Seen: [8]int{n - 1}}) {
			t.Errorf("record %d: %+v, not %v", n, r, want[k])
		}
	}
}

// P10.5: the chapter's first example, and the records that it makes.
func TestExample(t *testing.T) {
	w := fresh(t)
	answers(t, w, whiteRoll, "ok")
	answers(t, w, roundType, "ok")
	answers(t, w, "make 5 2 10", "1-2")
	wantRecords(t, w, [3]int{1, 1, 5}, [3]int{1, 2, 1}, [3]int{2, 1, 5}, [3]int{2, 2, 1})
	pieces := w.Shelf().Pieces()
	if len(pieces) != 2 || pieces[0].Use != 1 || pieces[1].Use != 2 {
		t.Fatalf("Pieces: %+v", pieces)
	}
	answers(t, w, "sign 1", fmt.Sprintf("5 1 %d", pieces[0].Id))
	wantSign(t, w, api.Made{Number: 2, Code: 5, State: 1, Pieces: []int{pieces[1].Id}})
	answers(t, w, "balance", "120000 112800 0 7200 0")
	answers(t, w, "hang 1 9 1200 11", "ok")
	wantRecords(t, w, [3]int{1, 2, 2}, [3]int{1, 3, 9}, [3]int{1, 4, 1200}, [3]int{1, 5, 11})
	answers(t, w, "sign 1", fmt.Sprintf("5 2 %d", pieces[0].Id))
	wantSign(t, w, api.Made{Number: 1, Code: 5, State: 2, Pieces: []int{pieces[0].Id}, Road: 9, Chain: 1200, Day: 11})
	if l, err := w.Recall(7); !slices.Equal(l, []int{1}) || err != api.OK {
		t.Errorf("Recall: %v, error %d", l, err)
	}
	answers(t, w, "recall 7", "1 2")
	answers(t, w, "balance", "120000 0 0 7200 112800")
}

// P10.5, roll: the errors of Receive.
func TestRoll(t *testing.T) {
	w := fresh(t, whiteRoll)
	fails(t, w, "roll 0 2 1 7 0 120 1000", api.ErrRoll)
	fails(t, w, "roll 2 4 1 7 0 120 1000", api.ErrRoll)
	fails(t, w, "roll 2 2 8 7 0 120 1000", api.ErrRoll)
	fails(t, w, "roll 2 2 1 0 0 120 1000", api.ErrRoll)
	fails(t, w, "roll 2 2 1 7 100001 120 1000", api.ErrRoll)
	fails(t, w, "roll 2 2 1 7 0 151 1000", api.ErrRoll)
	fails(t, w, "roll 1 2 1 7 0 120 6001", api.ErrRoll)
	fails(t, w, whiteRoll, api.ErrThere)
	fails(t, w, "roll 1 3 1 7 0 120 1000", api.ErrThere)
	fails(t, w, "roll 2 3 1 7 0 120 1000", api.ErrLot)
	fails(t, w, "roll 2 2 1 7 1 120 1000", api.ErrLot)
	answers(t, w, "roll 2 2 1 7 0 1 1", "ok")
	want := []api.Sheet{
		{Id: 1, Root: 1, Grade: 2, Colour: 1, Lot: 7, Width: 120, Length: 1000},
		{Id: 2, Root: 2, Grade: 2, Colour: 1, Lot: 7, Width: 1, Length: 1},
	}
	if l := w.Shelf().Items(); !reflect.DeepEqual(l, want) {
		t.Errorf("Items: %+v", l)
	}
}

// P10.5, type: types that are not valid, and types of one code that overlap.
func TestType(t *testing.T) {
	const text = " round 60: field white"
	w := fresh(t, "type 5 2 10 20"+text)
	for _, front := range []string{
		"type 0 2 0 5", "type 1000001 2 0 5", "type 6 0 0 5", "type 6 4 0 5", "type 6 2 5 5", "type 6 2 6 5", "type 6 2 100001 100002",
		"type 6 2 0 100002", "type 5 2 10 20", "type 5 3 0 11", "type 5 2 19 30", "type 5 2 12 13", "type 5 2 0 100001",
	} {
		fails(t, w, front+text, api.ErrType)
	}
	for _, front := range []string{"type 5 2 0 10", "type 5 2 20 21", "type 6 2 10 20", "type 1000000 3 100000 100001", "type 1 1 0 100001"} {
		answers(t, w, front+text, "ok")
	}
	fails(t, w, "type 5 2 9 10"+text, api.ErrType)
}

// P10.5, make: the errors in their order, and that no face is made if there is one.
func TestMakeErrors(t *testing.T) {
	w := fresh(t, "roll 1 2 1 7 5 60 200", "type 5 2 0 50 round 60: field white",
		"type 6 2 0 50 panel 100 100: field red; text white 12 \"MM\" at 5 3", "type 7 2 50 100001 round 60: field white")
	fails(t, w, "make 8 0 10", api.ErrNone)
	fails(t, w, "make 0 1 10", api.ErrNone)
	fails(t, w, "make 5 0 50", api.ErrNone)
	fails(t, w, "make 5 21 50", api.ErrNone)
	fails(t, w, "make 7 1 49", api.ErrNone)
	fails(t, w, "make 7 1 100001", api.ErrNone)
	fails(t, w, "make 5 0 10", api.ErrArg)
	fails(t, w, "make 5 21 10", api.ErrArg)
	fails(t, w, "make 5 1 4", api.ErrShort)
	fails(t, w, "make 5 4 10", api.ErrShort)
	fails(t, w, "make 5 20 10", api.ErrShort)
	fails(t, w, "make 7 1 2006", api.ErrShort)
	answers(t, w, "make 7 1 2005", "1-1")
	answers(t, w, "make 5 2 49", "2-3")
	fails(t, w, "make 5 1 10", api.ErrShort)
	c := plain()
	c.StripWidth = 40
	w = open(t, c, book.NewDisk())
	do(t, w, "type 6 2 0 50 panel 100 100: field red; text white 12 \"M\" at 5 3")
	fails(t, w, "make 6 0 10", api.ErrArg)
	fails(t, w, "make 6 1 10", api.ErrWide)
	c.StripWidth = 1
	w = open(t, c, book.NewDisk())
	do(t, w, "type 6 2 0 50 panel 51 4: field red", "type 7 2 0 50 panel 50 4: field red", "roll 1 2 4 7 0 150 6000")
	fails(t, w, "make 6 1 10", api.ErrArg)
	answers(t, w, "make 7 1 10", "1-1")
	answers(t, w, "make 7 20 10", "2-21")
}

// P10.5 and P10.9: a face of several strips has its pieces from one lot, with its number as their Use.
func TestMakePieces(t *testing.T) {
	w := fresh(t, "roll 10 1 6 3 0 70 150", "roll 20 1 6 4 1 70 6000", "type 1 1 0 9 panel 130 50: field blue")
	answers(t, w, "make 1 2 1", "1-2")
	answers(t, w, "make 1 1 1", "3-3")
	for k, s := range w.Signs() {
		if s.Number != k+1 || s.Code != 1 || s.State != api.StateMade || len(s.Pieces) != 3 {
			t.Errorf("sign %+v", s)
		}
		answers(t, w, fmt.Sprintf("sign %d", k+1), fmt.Sprintf("1 1 %d %d %d", s.Pieces[0], s.Pieces[1], s.Pieces[2]))
	}
	lots := map[int][]int{}
	for _, p := range w.Shelf().Pieces() {
		lots[p.Use] = append(lots[p.Use], p.Lot)
		if p.Width != 60 || p.Length != 50 || p.Colour != api.Blue || p.Grade != 1 {
			t.Errorf("piece %+v", p)
		}
	}
	if want := map[int][]int{1: {3, 3, 3}, 2: {4, 4, 4}, 3: {4, 4, 4}}; !reflect.DeepEqual(lots, want) {
		t.Errorf("lots of the signs: %v", lots)
	}
}

// P10.5, hang: errors in their order, at the limits and just beyond them; a sign hangs anew where it was covered, with its measures.
func TestHang(t *testing.T) {
	w := fresh(t, whiteRoll, roundType, "make 5 2 10")
	fails(t, w, "hang 0 0 0 0", api.ErrNone)
	fails(t, w, "hang 3 9 1200 11", api.ErrNone)
	fails(t, w, "hang 1 0 1200 11", api.ErrArg)
	fails(t, w, "hang 1 1000001 1200 11", api.ErrArg)
	fails(t, w, "hang 1 9 10000001 11", api.ErrArg)
	fails(t, w, "hang 1 9 1200 100001", api.ErrArg)
	answers(t, w, "hang 1 1000000 10000000 100000", "ok")
	answers(t, w, "hang 2 1 0 0", "ok")
	fails(t, w, "hang 1 0 1200 11", api.ErrState)
	do(t, w, "light 1 200 12", "cover 1", "hang 1 2 3 4")
	made := api.Made{Number: 1, Code: 5, State: api.StateHung, Pieces: w.Signs()[0].Pieces, Road: 2, Chain: 3, Day: 4}
	made.Measures = []api.Measure{{Day: 12, R: 200}}
	wantSign(t, w, made)
	wantRecords(t, w, [3]int{1, 6, 200}, [3]int{1, 2, 3}, [3]int{1, 2, 2}, [3]int{1, 3, 2}, [3]int{1, 4, 3}, [3]int{1, 5, 4})
	do(t, w, "down 1")
	fails(t, w, "hang 1 2 3 4", api.ErrState)
	made.State = api.StateDown
	wantSign(t, w, made)
}

// P10.5, cover and down: which states they want.
func TestCoverDown(t *testing.T) {
	w := fresh(t, whiteRoll, roundType, "make 5 2 10")
	for _, line := range []string{"cover", "down"} {
		fails(t, w, line+" 0", api.ErrNone)
		fails(t, w, line+" 3", api.ErrNone)
		fails(t, w, line+" 1", api.ErrState)
	}
	do(t, w, "hang 1 9 1200 11", "hang 2 9 1300 11")
	answers(t, w, "cover 1", "ok")
	wantRecords(t, w, [3]int{1, 2, 3})
	fails(t, w, "cover 1", api.ErrState)
	answers(t, w, "down 1", "ok")
	wantRecords(t, w, [3]int{1, 2, 4})
	answers(t, w, "down 2", "ok")
	wantRecords(t, w, [3]int{2, 2, 4})
	for _, line := range []string{"cover", "down"} {
		fails(t, w, line+" 1", api.ErrState)
		fails(t, w, line+" 2", api.ErrState)
	}
	wantSign(t, w, api.Made{Number: 2, Code: 5, State: 4, Pieces: w.Signs()[1].Pieces, Road: 9, Chain: 1300, Day: 11})
}

// P10.5, light: errors in their order, at the limits and just beyond them.
func TestLight(t *testing.T) {
	w := fresh(t, whiteRoll, roundType, "make 5 3 10", "hang 1 9 1200 11", "hang 2 9 1300 11")
	fails(t, w, "light 0 0 0", api.ErrNone)
	fails(t, w, "light 4 100001 0", api.ErrNone)
	fails(t, w, "light 3 100001 0", api.ErrState)
	fails(t, w, "light 1 100001 0", api.ErrArg)
	fails(t, w, "light 1 5 100001", api.ErrArg)
	answers(t, w, "light 1 100000 0", "ok")
	fails(t, w, "light 1 5 0", api.ErrArg)
	answers(t, w, "light 1 0 1", "ok")
	answers(t, w, "light 1 7 99999", "ok")
	fails(t, w, "light 1 7 99999", api.ErrArg)
	fails(t, w, "light 1 7 5", api.ErrArg)
	answers(t, w, "light 1 8 100000", "ok")
	fails(t, w, "light 1 8 100000", api.ErrArg)
	answers(t, w, "light 2 8 5", "ok")
	wantRecords(t, w, [3]int{1, 6, 100000}, [3]int{1, 6, 0}, [3]int{1, 6, 7}, [3]int{1, 6, 8}, [3]int{2, 6, 8})
	want := []api.Measure{{Day: 0, R: 100000}, {Day: 1, R: 0}, {Day: 99999, R: 7}, {Day: 100000, R: 8}}
	if l := w.Signs()[0].Measures; !slices.Equal(l, want) {
		t.Errorf("Measures: %v", l)
	}
	do(t, w, "cover 2")
	fails(t, w, "light 2 8 6", api.ErrState)
	do(t, w, "down 2")
	fails(t, w, "light 2 8 6", api.ErrState)
}

// P10.5, scrap: items alone can be scrapped; the pieces of signs are ErrState, whatever the state of the sign.
func TestScrap(t *testing.T) {
	w := fresh(t, whiteRoll, roundType, "make 5 2 10", "hang 1 9 1200 11", "down 1")
	for _, s := range w.Signs() {
		fails(t, w, fmt.Sprintf("scrap %d", s.Pieces[0]), api.ErrState)
	}
	fails(t, w, "scrap 0", api.ErrNone)
	fails(t, w, "scrap 77", api.ErrNone)
	answers(t, w, "scrap 1", "ok")
	fails(t, w, "scrap 1", api.ErrNone)
	for _, it := range w.Shelf().Items() {
		answers(t, w, fmt.Sprintf("scrap %d", it.Id), "ok")
	}
	answers(t, w, "balance", "120000 0 0 7200 112800")
}

// P10.5, expire and recall: what becomes waste, and which signs are told.
func TestExpireRecall(t *testing.T) {
	w := fresh(t, whiteRoll, "roll 2 2 1 8 1 60 120", "roll 3 3 1 9 0 60 120", roundType, "make 5 2 10")
	fails(t, w, "expire 100001", api.ErrArg)
	answers(t, w, "expire 1000", "ok")
	answers(t, w, "balance", "134400 127200 0 7200 0")
	answers(t, w, "expire 1001", "ok")
	answers(t, w, "balance", "134400 120000 0 7200 7200")
	answers(t, w, "expire 2001", "ok")
	answers(t, w, "balance", "134400 7200 0 7200 120000")
	fails(t, w, "recall 0", api.ErrNone)
	fails(t, w, "recall 1", api.ErrNone)
	answers(t, w, "recall 8", "-")
	answers(t, w, "balance", "134400 0 0 7200 127200")
	answers(t, w, "recall 9", "-")
	answers(t, w, "recall 7", "1 2")
	answers(t, w, "recall 7", "1 2")
}

// P10.5, tablet: the errors in their order; records of other tablets that wait or fork come in.
func TestTablet(t *testing.T) {
	w := fresh(t, whiteRoll, roundType, "make 5 1 10")
	good := api.Record{Tablet: 2, Number: 1, Hour: 258, Sign: 7, Field: 5, Value: -1, Seen: [8]int{2}}
	line := tabletLine(t, good)
	for _, bad := range []string{
		"tablet x", "tablet 0", "tablet 00", "tablet " + strings.ToUpper(line[7:]), line + "0", line + "00", line[:len(line)-1],
		line[:len(line)-2], "tablet 0x" + line[7:], "tablet 09" + line[9:], "tablet " + strings.Replace(line[7:], "f", "g", 1),
		"tablet " + strings.Replace(line[7:], "f", "\xff", 1), "tablet 01" + line[9:], // of tablet 1, which has not seen its own
	} {
		fails(t, w, bad, api.ErrForm)
	}
	own := api.Record{Tablet: 1, Number: 1, Sign: 7, Field: 1}
	fails(t, w, tabletLine(t, own), api.ErrArg)
	own.Number, own.Seen[0] = 3, 2
	fails(t, w, tabletLine(t, own), api.ErrArg)
	far := good
	far.Seen[0] = 3
	fails(t, w, tabletLine(t, far), api.ErrArg)
	answers(t, w, line, "ok")
	fails(t, w, line, api.ErrThere)
	answers(t, w, "values 7 5", "-1")
	late := api.Record{Tablet: 3, Number: 2, Sign: 7, Field: 5, Value: 4, Seen: [8]int{0, 9, 1}}
	answers(t, w, tabletLine(t, late), "ok")
	if l := w.Book().Waiting(); !slices.Equal(l, []api.Record{late}) {
		t.Errorf("Waiting: %v", l)
	}
	other := good
	other.Value = 6
	answers(t, w, tabletLine(t, other), "ok")
	if l := w.Book().Forks(); !slices.Equal(l, []api.Fork{{Tablet: 2, Number: 1}}) {
		t.Errorf("Forks: %v", l)
	}
	answers(t, w, "values 7 5", "-")
}

// P10.5, tablet: a record may have seen as many records of tablet 1 as there are by then.
func TestTabletSeen(t *testing.T) {
	w := fresh(t, whiteRoll, roundType)
	line := func(seen int) string {
		return tabletLine(t, api.Record{Tablet: 8, Number: 1, Sign: 1, Field: 2, Value: seen, Seen: [8]int{seen}})
	}
	fails(t, w, line(1), api.ErrArg)
	do(t, w, "make 5 1 10", "hang 1 9 1200 11", "light 1 200 12", "cover 1", "down 1")
	fails(t, w, line(10), api.ErrArg)
	fails(t, w, line(1000000), api.ErrArg)
	answers(t, w, line(9), "ok")
	answers(t, w, "values 1 2", "9")
}

// P10.5: the state of a sign is that of the works' own lines, whatever the book's values are.
func TestStateIsOwn(t *testing.T) {
	w := fresh(t, whiteRoll, roundType, "make 5 1 10", "hang 1 9 1200 11")
	do(t, w, tabletLine(t, api.Record{Tablet: 2, Number: 1, Sign: 1, Field: api.FieldState, Value: api.StateDown, Seen: [8]int{6}}))
	do(t, w, tabletLine(t, api.Record{Tablet: 3, Number: 1, Sign: 1, Field: api.FieldRoad, Value: 10, Seen: [8]int{6}}))
	answers(t, w, "values 1 2", "4")
	answers(t, w, "sign 1", "5 2 3")
	if s := w.Signs()[0]; s.State != api.StateHung || s.Road != 9 {
		t.Errorf("Signs: %+v", s)
	}
	answers(t, w, "cover 1", "ok")
	answers(t, w, "values 1 2", "3")
}

// P10.5, decide, values and disputes: a decision ends a dispute, at which it has to be.
func TestDecide(t *testing.T) {
	w := fresh(t, whiteRoll, roundType, "make 5 1 10")
	fails(t, w, "decide 1 2 5", api.ErrNone)
	fails(t, w, "decide 0 2 5", api.ErrNone)
	fails(t, w, "decide 1 7 5", api.ErrNone)
	fails(t, w, "decide 1 0 5", api.ErrNone)
	do(t, w, tabletLine(t, api.Record{Tablet: 2, Number: 1, Sign: 1, Field: 2, Value: -7}))
	do(t, w, tabletLine(t, api.Record{Tablet: 3, Number: 1, Sign: 99, Field: 6, Value: 7, Seen: [8]int{1}}))
	answers(t, w, "disputes", "1/2")
	answers(t, w, "values 1 2", "-7 1")
	do(t, w, tabletLine(t, api.Record{Tablet: 4, Number: 1, Sign: 99, Field: 6, Value: 12}))
	do(t, w, tabletLine(t, api.Record{Tablet: 5, Number: 1, Sign: 99, Field: 6, Value: -1 << 40}))
	answers(t, w, "disputes", "1/2 99/6")
	answers(t, w, "values 99 6", "-1099511627776 7 12")
	fails(t, w, "decide 99 5 5", api.ErrNone)
	answers(t, w, "decide 99 6 999999999", "ok")
	answers(t, w, "values 99 6", "999999999")
	answers(t, w, "disputes", "1/2")
	fails(t, w, "decide 99 6 5", api.ErrNone)
	answers(t, w, "decide 1 2 0", "ok")
	answers(t, w, "disputes", "-")
	answers(t, w, "values 1 2", "0")
	answers(t, w, "sign 1", "5 1 3")
	last := w.Book().Records()[3]
	if last != (api.Record{Tablet: 1, Number: 4, Sign: 1, Field: 2, Seen: [8]int{3, 1, 1, 1, 1}}) {
		t.Errorf("the decision is %+v", last)
	}
	lines := w.Lines()
	if lines[len(lines)-1] != "decide 1 2 0" {
		t.Errorf("Lines: %q", lines)
	}
}

// P10.5, values and sign: their errors.
func TestLookErrors(t *testing.T) {
	w := fresh(t, whiteRoll, roundType, "make 5 1 10")
	fails(t, w, "values 0 1", api.ErrArg)
	fails(t, w, "values 1 0", api.ErrArg)
	fails(t, w, "values 1 7", api.ErrArg)
	answers(t, w, "values 999999999 6", "-")
	answers(t, w, "values 1 1", "5")
	fails(t, w, "sign 0", api.ErrNone)
	fails(t, w, "sign 2", api.ErrNone)
}

// P10.5: tablet 1 has 10^6 numbers; a line that would need more has the error of book.Write, last of all, and nothing changes.
func TestRecordLimit(t *testing.T) {
	if testing.Short() {
		t.Skip("makes a million records")
	}
	w := fresh(t, whiteRoll, roundType, "make 5 2 10")
	lines := 3
	for records := 4; records+5 <= api.MaxNumber; records += 5 {
		do(t, w, "hang 1 9 1200 11", "cover 1")
		lines += 2
	}
	refused := func(line string, want api.Errno) {
		t.Helper()
		if answer, err := w.Do(line); answer != "" || err != want {
			t.Errorf("%s: %q, error %d, not %d", line, answer, err, want)
		}
	}
	unchanged := func(line string, want api.Errno) {
		t.Helper()
		refused(line, want)
		answers(t, w, "sign 1", "5 3 3")
		answers(t, w, "values 1 2", "3")
		answers(t, w, "values 3 1", "-")
		answers(t, w, "balance", "120000 112800 0 7200 0")
		if l := w.Signs(); len(l) != 2 || l[0].State != api.StateCovered || l[0].Day != 11 {
			t.Errorf("%s changes the signs to %+v", line, l)
		}
	}
	unchanged("hang 1 8 1300 12", api.ErrArg)
	unchanged("hang 2 8 1300 12", api.ErrArg)
	unchanged("make 5 1 10", api.ErrArg)
	unchanged("make 5 20 10", api.ErrArg)
	unchanged("make 5 21 10", api.ErrArg)
	unchanged("make 6 1 10", api.ErrNone)
	if n := len(w.Lines()); n != lines {
		t.Errorf("%d lines, not %d", n, lines)
	}
	answers(t, w, "down 1", "ok")
	answers(t, w, "values 1 2", "4")
	do(t, w, "scrap 1")
	refused("make 5 20 10", api.ErrShort)
	refused("hang 2 8 1300 12", api.ErrArg)
}
