package rule_test

import (
	"math"
	"reflect"
	"slices"
	"testing"

	"blazon/api"
	"blazon/rule"
)

const maxHour = 10000000

// line is that of the chapter's first example.
func line() api.Line {
	return api.Line{Length: 1000, Junctions: []int{600}}
}

// greatestLine is a line at its upper limits.
func greatestLine() api.Line {
	l := api.Line{Length: 100000}
	for j := range 50 {
		l.Junctions = append(l.Junctions, 99950+j)
	}
	return l
}

// post returns a sign upwards that always speaks.
func post(number, kind, value, chain, rank int) api.Sign {
	return api.Sign{Number: number, Kind: kind, Value: value, Chain: chain, Dir: 1, Rank: rank, Up: 0, Down: maxHour + 1}
}

// edict returns an edict of a speed upwards that always holds.
func edict(number, value, from, to int) api.Edict {
	return api.Edict{Number: number, Topic: 1, Value: value, Dir: 1, From: from, To: to, Start: 0, End: maxHour + 1}
}

func span(from, to int) api.Span {
	return api.Span{From: from, To: to}
}

// signs are some of each kind, with covers.
func signs() []api.Sign {
	list := []api.Sign{
		post(5, api.Limit, 70, 200, 1), post(3, api.Plate, 150, 200, 2), post(9, api.NoPass, 0, 300, 1), post(4, api.Repeat, 70, 250, 1),
		post(8, api.EndAll, 0, 700, 1), post(7, api.LimitEnd, 0, 500, 1), post(6, api.NoPassEnd, 0, 550, 1), post(2, api.Warning, 12, 0, 9),
	}
	list[0].Covers = []api.Span{span(10, 20), span(15, 30)}
	list[2].Up, list[2].Down = 5, 50
	return append(list, api.Sign{Number: 1, Kind: api.Limit, Value: 50, Chain: 1000, Dir: -1, Rank: 1, Up: 7, Down: 8})
}

func edicts() []api.Edict {
	list := []api.Edict{edict(3, 70, 200, 600), edict(1, 50, 100, 300), edict(2, 1, 300, 550)}
	list[2].Topic, list[2].Start, list[2].End = 2, 5, 60
	return list
}

// full returns as many signs as there may be, each with as many covers.
func full(l api.Line) []api.Sign {
	var list []api.Sign
	for i := range 100 {
		kind := []int{api.Limit, api.Plate, api.NoPass, api.Plate, api.Repeat, api.EndAll}[i%6]
		value := []int{10 + i, i + 1, 0, i + 1, 10 + i, 0}[i%6]
		s := api.Sign{Number: 1000000000 - i, Kind: kind, Value: value, Chain: l.Length * (i / 6) / 20, Dir: 1 - 2*(i%2), Rank: 9, Down: maxHour + 1}
		for c := range 10 {
			s.Covers = append(s.Covers, span(1000*i+100*c+1, 1000*i+100*c+50))
		}
		list = append(list, s)
	}
	return list
}

func invalidLines() []api.Line {
	lines := []api.Line{
		{}, {Length: -1}, {Length: 100001}, {Length: math.MinInt}, {Length: math.MaxInt},
		{Length: 1, Junctions: []int{0}}, {Length: 1, Junctions: []int{1}}, {Length: 100, Junctions: []int{0}}, {Length: 100, Junctions: []int{100}},
		{Length: 100, Junctions: []int{-1}}, {Length: 100, Junctions: []int{101}}, {Length: 100, Junctions: []int{math.MinInt}},
		{Length: 100, Junctions: []int{math.MaxInt}}, {Length: 100, Junctions: []int{5, 5}}, {Length: 100, Junctions: []int{5, 7, 6}},
		{Length: 100, Junctions: []int{5, 100}}, {Length: 100, Junctions: []int{5, 0}},
	}
	many := api.Line{Length: 100000}
	for j := range 51 {
		many.Junctions = append(many.Junctions, j+1)
	}
	return append(lines, many)
}

// P7.2: ValidLine, at the limits and just beyond them.
func TestValidLine(t *testing.T) {
	for _, l := range []api.Line{
		line(), greatestLine(), {Length: 1}, {Length: 2, Junctions: []int{1}}, {Length: 100000}, {Length: 100, Junctions: []int{1, 2, 98, 99}},
		{Length: 1, Junctions: []int{}},
	} {
		if !rule.ValidLine(l) || !rule.ValidSigns(l, nil) || !rule.ValidEdicts(l, []api.Edict{}) {
			t.Errorf("the line is not valid: %v", l)
		}
	}
	for _, l := range invalidLines() {
		if rule.ValidLine(l) || rule.ValidSigns(l, nil) || rule.ValidEdicts(l, nil) {
			t.Errorf("the line is valid: %v", l)
		}
	}
}

// invalidSigns returns lists of which one sign is not valid for line(), for one reason each.
func invalidSigns() [][]api.Sign {
	var lists [][]api.Sign
	change := func(f func(s *api.Sign)) {
		list := signs()
		f(&list[0])
		lists = append(lists, list)
		last := signs()
		slices.Reverse(last)
		f(&last[len(last)-1])
		lists = append(lists, last)
	}
	set := func(field func(s *api.Sign) *int, values ...int) {
		for _, v := range append(values, math.MinInt, math.MaxInt) {
			change(func(s *api.Sign) { *field(s) = v })
		}
	}
	set(func(s *api.Sign) *int { return &s.Number }, 0, -1, 1000000001)
	set(func(s *api.Sign) *int { return &s.Number }, 3, 1) // of another one
	set(func(s *api.Sign) *int { return &s.Kind }, 0, -1, 9)
	set(func(s *api.Sign) *int { return &s.Chain }, -1, 1001)
	set(func(s *api.Sign) *int { return &s.Dir }, 0, 2, -2)
	set(func(s *api.Sign) *int { return &s.Rank }, 0, 10, -1)
	set(func(s *api.Sign) *int { return &s.Up }, -1, maxHour+1)
	set(func(s *api.Sign) *int { return &s.Down }, 0, -1, maxHour+2)
	change(func(s *api.Sign) { s.Up, s.Down = 7, 7 })
	change(func(s *api.Sign) { s.Up, s.Down = 8, 7 })
	change(func(s *api.Sign) { s.Up, s.Down = maxHour+1, maxHour+2 })
	for _, c := range []api.Span{{}, span(5, 5), span(6, 5), span(-1, 5), span(5, maxHour+2), span(maxHour+1, maxHour+2), span(math.MinInt, math.MaxInt)} {
		change(func(s *api.Sign) { s.Covers = []api.Span{c} })
		change(func(s *api.Sign) { s.Covers = []api.Span{span(1, 2), c, span(3, 4)} })
	}
	change(func(s *api.Sign) { s.Covers = slices.Repeat([]api.Span{span(1, 2)}, 11) })
	for kind, values := range wrongValues() {
		for _, v := range append(values, math.MinInt, math.MaxInt) {
			change(func(s *api.Sign) { s.Kind, s.Value = kind, v })
		}
	}
	var many []api.Sign
	for i := range 101 {
		many = append(many, post(i+1, api.Warning, 0, 5, 1))
	}
	return append(lists, many)
}

// wrongValues returns, for each kind, values that it has not.
func wrongValues() map[int][]int {
	return map[int][]int{
		api.Limit: {0, 9, 201, -70}, api.Repeat: {0, 9, 201, -70}, api.LimitEnd: {1, -1, 70}, api.NoPass: {1, -1}, api.NoPassEnd: {1, -1},
		api.EndAll: {1, -1}, api.Plate: {0, -1, 100001}, api.Warning: {-1, 1001},
		0: {0, 70}, 9: {0, 70},
	}
}

// P7.2: ValidSigns, at the limits and just beyond them.
func TestValidSigns(t *testing.T) {
	for i, list := range invalidSigns() {
		if rule.ValidSigns(line(), list) {
			t.Errorf("the signs %d are valid: %v", i, list)
		}
	}
	lists := [][]api.Sign{nil, {}, signs(), full(line())}
	change := func(f func(s *api.Sign)) {
		list := signs()
		f(&list[0])
		lists = append(lists, list)
	}
	for kind, values := range map[int][]int{
		api.Limit: {10, 200}, api.Repeat: {10, 200}, api.LimitEnd: {0}, api.NoPass: {0}, api.NoPassEnd: {0}, api.EndAll: {0},
		api.Plate: {1, 100000}, api.Warning: {0, 1000},
	} {
		for _, v := range values {
			change(func(s *api.Sign) { s.Kind, s.Value = kind, v })
		}
	}
	change(func(s *api.Sign) { s.Number = 1000000000 })
	change(func(s *api.Sign) { s.Number = 10 })
	change(func(s *api.Sign) { s.Chain = 0 })
	change(func(s *api.Sign) { s.Chain = 1000 })
	change(func(s *api.Sign) { s.Dir = -1 })
	change(func(s *api.Sign) { s.Rank = 9 })
	change(func(s *api.Sign) { s.Up, s.Down = 0, 1 })
	change(func(s *api.Sign) { s.Up, s.Down = maxHour, maxHour+1 })
	change(func(s *api.Sign) { s.Covers = []api.Span{span(0, maxHour+1), span(maxHour, maxHour+1), span(0, 1)} })
	change(func(s *api.Sign) { s.Covers = slices.Repeat([]api.Span{span(1, 2)}, 10) })
	for _, list := range lists {
		if !rule.ValidSigns(line(), list) {
			t.Errorf("the signs are not valid: %v", list)
		}
	}
	for _, l := range invalidLines() {
		if rule.ValidSigns(l, signs()) {
			t.Errorf("signs are valid for the invalid line %v", l)
		}
	}
	if rule.ValidSigns(api.Line{Length: 999}, signs()) || !rule.ValidSigns(api.Line{Length: 1000}, signs()) {
		t.Error("a sign beyond the line is valid, or the last one is not")
	}
}

// invalidEdicts returns lists of which one edict is not valid for line(), for one reason each.
func invalidEdicts() [][]api.Edict {
	var lists [][]api.Edict
	change := func(f func(e *api.Edict)) {
		list := edicts()
		f(&list[0])
		lists = append(lists, list)
		last := edicts()
		slices.Reverse(last)
		f(&last[len(last)-1])
		lists = append(lists, last)
	}
	set := func(field func(e *api.Edict) *int, values ...int) {
		for _, v := range append(values, math.MinInt, math.MaxInt) {
			change(func(e *api.Edict) { *field(e) = v })
		}
	}
	set(func(e *api.Edict) *int { return &e.Number }, 0, -1, 1000000001)
	set(func(e *api.Edict) *int { return &e.Number }, 1, 2) // of another one
	set(func(e *api.Edict) *int { return &e.Topic }, 0, 3, -1, 2)
	set(func(e *api.Edict) *int { return &e.Value }, 0, 9, 201, 1)
	set(func(e *api.Edict) *int { return &e.Dir }, 0, 2, -2)
	set(func(e *api.Edict) *int { return &e.From }, -1, 600, 601)
	set(func(e *api.Edict) *int { return &e.To }, 200, 199, 1001, -1)
	set(func(e *api.Edict) *int { return &e.Start }, -1, maxHour+1)
	set(func(e *api.Edict) *int { return &e.End }, 0, -1, maxHour+2)
	change(func(e *api.Edict) { e.Start, e.End = 9, 9 })
	change(func(e *api.Edict) { e.Start, e.End = maxHour+1, maxHour+2 })
	change(func(e *api.Edict) { e.From, e.To = 1000, 1001 })
	for _, v := range []int{0, 2, -1, 10, math.MinInt, math.MaxInt} {
		change(func(e *api.Edict) { e.Topic, e.Value = 2, v })
	}
	for _, topic := range []int{0, 3} {
		change(func(e *api.Edict) { e.Topic, e.Value = topic, 1 })
	}
	var many []api.Edict
	for i := range 51 {
		many = append(many, edict(i+1, 50, 5, 6))
	}
	return append(lists, many)
}

// P7.2: ValidEdicts, at the limits and just beyond them.
func TestValidEdicts(t *testing.T) {
	for i, list := range invalidEdicts() {
		if rule.ValidEdicts(line(), list) {
			t.Errorf("the edicts %d are valid: %v", i, list)
		}
	}
	lists := [][]api.Edict{nil, {}, edicts()}
	change := func(f func(e *api.Edict)) {
		list := edicts()
		f(&list[0])
		lists = append(lists, list)
	}
	change(func(e *api.Edict) { e.Number = 1000000000 })
	change(func(e *api.Edict) { e.Value = 10 })
	change(func(e *api.Edict) { e.Value = 200 })
	change(func(e *api.Edict) { e.Topic, e.Value = 2, 1 })
	change(func(e *api.Edict) { e.Dir = -1 })
	change(func(e *api.Edict) { e.From, e.To = 0, 1000 })
	change(func(e *api.Edict) { e.From, e.To = 0, 1 })
	change(func(e *api.Edict) { e.From, e.To = 999, 1000 })
	change(func(e *api.Edict) { e.Start, e.End = 0, 1 })
	change(func(e *api.Edict) { e.Start, e.End = maxHour, maxHour+1 })
	var most []api.Edict
	for i := range 50 {
		most = append(most, edict(50-i, 50, 5, 6))
	}
	for _, list := range append(lists, most) {
		if !rule.ValidEdicts(line(), list) {
			t.Errorf("the edicts are not valid: %v", list)
		}
	}
	for _, l := range invalidLines() {
		if rule.ValidEdicts(l, edicts()) {
			t.Errorf("edicts are valid for the invalid line %v", l)
		}
	}
	if rule.ValidEdicts(api.Line{Length: 599}, edicts()) || !rule.ValidEdicts(api.Line{Length: 600}, edicts()) {
		t.Error("an edict beyond the line is valid, or the last one is not")
	}
}

// asked are the arguments of a function beside its lists.
type asked struct {
	hour, dir, topic, metre int
}

// outcome is what a call returned, and whether its other results are zero.
type outcome struct {
	name string
	zero bool
	err  api.Errno
}

// askSigns calls every function that has signs as an argument.
func askSigns(l api.Line, s []api.Sign, e []api.Edict, a asked) map[string]outcome {
	row, e1 := rule.Row(l, s, a.hour, a.dir)
	holds, e2 := rule.Holds(l, s, a.hour, a.dir, a.topic, a.metre)
	held, e3 := rule.Held(l, s, a.hour, a.dir, a.topic)
	gaps, e4 := rule.Compare(l, s, e, a.hour)
	faults, e5 := rule.Faults(l, s, a.hour)
	moments, e6 := rule.Moments(l, s, e)
	history, e7 := rule.History(l, s, a.dir, a.topic, a.metre)
	all := map[string]outcome{}
	for _, o := range []outcome{
		{"Row", len(row) == 0, e1}, {"Holds", holds == 0, e2}, {"Held", len(held) == 0, e3}, {"Compare", len(gaps) == 0, e4},
		{"Faults", len(faults) == 0, e5}, {"Moments", len(moments) == 0, e6}, {"History", len(history) == 0, e7},
	} {
		all[o.name] = o
	}
	return all
}

// askEdicts calls every function that has edicts as an argument, and perhaps signs.
func askEdicts(l api.Line, s []api.Sign, e []api.Edict, a asked) map[string]outcome {
	must, e1 := rule.Must(l, e, a.hour, a.dir, a.topic, a.metre)
	wanted, e2 := rule.Wanted(l, e, a.hour, a.dir, a.topic)
	proposed, e3 := rule.Propose(l, e, a.hour)
	both := askSigns(l, s, e, a)
	all := map[string]outcome{"Compare": both["Compare"], "Moments": both["Moments"]}
	for _, o := range []outcome{{"Must", must == 0, e1}, {"Wanted", len(wanted) == 0, e2}, {"Propose", len(proposed) == 0, e3}} {
		all[o.name] = o
	}
	return all
}

func right() asked {
	return asked{hour: 6, dir: 1, topic: 1, metre: 210}
}

// wrongArgs are arguments of which at least one is wrong, with the functions that have none of the wrong ones.
func wrongArgs() map[asked][]string {
	all := map[asked][]string{}
	set := func(field func(a *asked) *int, spared []string, values ...int) {
		for _, v := range append(values, math.MinInt, math.MaxInt) {
			a := right()
			*field(&a) = v
			all[a] = append(spared, "Moments")
		}
	}
	set(func(a *asked) *int { return &a.hour }, []string{"History"}, -1, maxHour+1)
	set(func(a *asked) *int { return &a.dir }, []string{"Compare", "Faults", "Propose"}, 0, 2, -2)
	set(func(a *asked) *int { return &a.topic }, []string{"Row", "Compare", "Faults", "Propose"}, 0, 3, -1)
	set(func(a *asked) *int { return &a.metre }, []string{"Row", "Held", "Wanted", "Compare", "Faults", "Propose"}, -1, 1000)
	all[asked{-1, 0, 0, -1}] = []string{"Moments"}
	return all
}

func expect(t *testing.T, all map[string]outcome, want api.Errno, what any) {
	t.Helper()
	for name, o := range all {
		if !o.zero || o.err != want {
			t.Fatalf("%s of %v: zero %v, error %d, not %d", name, what, o.zero, o.err, want)
		}
	}
}

// P7.1: ErrLine, ErrSign and ErrEdict come first, in this order, also beside wrong arguments.
func TestErrorsOfLists(t *testing.T) {
	cases := []asked{right(), {-1, 0, 0, -1}, {math.MaxInt, math.MaxInt, math.MaxInt, math.MaxInt}, {math.MinInt, math.MinInt, math.MinInt, math.MinInt}}
	for _, a := range cases {
		for _, l := range invalidLines() {
			for _, s := range [][]api.Sign{nil, signs(), {{}}} {
				for _, e := range [][]api.Edict{nil, edicts(), {{}}} {
					expect(t, askSigns(l, s, e, a), api.ErrLine, l)
					expect(t, askEdicts(l, s, e, a), api.ErrLine, l)
				}
			}
		}
		for _, s := range invalidSigns() {
			for _, e := range [][]api.Edict{nil, edicts(), {{}}} {
				expect(t, askSigns(line(), s, e, a), api.ErrSign, s)
			}
		}
		for _, e := range invalidEdicts() {
			expect(t, askEdicts(line(), signs(), e, a), api.ErrEdict, e)
		}
	}
}

// P7.1: wrong arguments are ErrArg of all functions that have them.
func TestErrArg(t *testing.T) {
	for a, spared := range wrongArgs() {
		for _, all := range []map[string]outcome{askSigns(line(), signs(), edicts(), a), askEdicts(line(), signs(), edicts(), a)} {
			for _, name := range spared {
				if o, ok := all[name]; ok && (o.zero || o.err != api.OK) {
					t.Errorf("%s with %v: zero %v, error %d", name, a, o.zero, o.err)
				}
				delete(all, name)
			}
			expect(t, all, api.ErrArg, a)
		}
	}
}

// P7.1: the greatest and the least arguments are right.
func TestRightArgs(t *testing.T) {
	for _, hour := range []int{0, maxHour} {
		for _, dir := range []int{1, -1} {
			for _, topic := range []int{1, 2} {
				for _, metre := range []int{0, 999} {
					a := asked{hour, dir, topic, metre}
					for _, all := range []map[string]outcome{askSigns(line(), signs(), edicts(), a), askEdicts(line(), signs(), edicts(), a)} {
						for name, o := range all {
							if o.err != api.OK {
								t.Errorf("%s with %v: error %d", name, a, o.err)
							}
						}
					}
				}
			}
		}
	}
}

// R1, R5: the greatest arguments have results, also where distances and plates reach beyond the line.
func TestGreatest(t *testing.T) {
	l, s := greatestLine(), full(greatestLine())
	for i := range s {
		if s[i].Kind == api.Plate {
			s[i].Value = 100000
		}
	}
	var e []api.Edict
	for i := range 50 {
		e = append(e, api.Edict{Number: 1000000000 - i, Topic: 1, Value: 200 - i, Dir: 1 - 2*(i%2), From: i, To: 100000 - i, End: maxHour + 1})
	}
	for _, dir := range []int{1, -1} {
		for _, topic := range []int{1, 2} {
			a := asked{maxHour, dir, topic, 99999}
			for _, all := range []map[string]outcome{askSigns(l, s, e, a), askEdicts(l, s, e, a)} {
				delete(all, "Propose") // so many edicts need too many signs
				for name, o := range all {
					if o.err != api.OK {
						t.Errorf("%s with %v: error %d", name, a, o.err)
					}
				}
			}
			held, _ := rule.Held(l, s, maxHour, dir, topic)
			if want := referenceStretches(referenceHeld(l, s, maxHour, dir, topic)); !slices.Equal(held, want) {
				t.Errorf("Held with %v: %v, not %v", a, held, want)
			}
			wanted, _ := rule.Wanted(l, e, maxHour, dir, topic)
			if want := referenceStretches(referenceWanted(l, e, maxHour, dir, topic)); !slices.Equal(wanted, want) {
				t.Errorf("Wanted with %v: %v, not %v", a, wanted, want)
			}
		}
	}
}

// R4: lists are read up to their length alone, and not changed; empty and nil lists are the same; results are new memory.
func TestListsStay(t *testing.T) {
	l := line()
	l.Junctions = append(l.Junctions, 300)[:1]
	s := append(signs(), api.Sign{Number: -7})[:len(signs())]
	s[0].Covers = append(s[0].Covers, span(0, maxHour))[:len(s[0].Covers)]
	e := append(edicts(), api.Edict{Number: -7})[:len(edicts())]
	for hour := range 32 {
		a := asked{hour, 1, 1, 210}
		if got, want := askSigns(l, s, e, a), askSigns(line(), signs(), edicts(), a); !reflect.DeepEqual(got, want) {
			t.Errorf("with something behind the lists: %v, not %v", got, want)
		}
		row, _ := rule.Row(l, s, hour, 1)
		held, _ := rule.Held(l, s, hour, 1, 1)
		gaps, _ := rule.Compare(l, s, e, hour)
		for i := range row {
			row[i] = 0
		}
		for i := range held {
			held[i] = api.Held{}
		}
		for i := range gaps {
			gaps[i] = api.Gap{}
		}
	}
	if !slices.Equal(l.Junctions[:2], []int{600, 300}) || !reflect.DeepEqual(s, signs()) || !slices.Equal(e, edicts()) ||
		s[:len(s)+1][len(s)].Number != -7 || e[:len(e)+1][len(e)].Number != -7 {
		t.Errorf("the arguments became %v, %v, %v", l, s, e)
	}
	empty := api.Line{Length: 1000, Junctions: []int{}}
	for name, o := range askSigns(empty, []api.Sign{}, []api.Edict{}, right()) {
		if o != askSigns(api.Line{Length: 1000}, nil, nil, right())[name] {
			t.Errorf("%s of empty lists: %v", name, o)
		}
	}
}
