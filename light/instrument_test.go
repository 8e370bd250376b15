package light_test

import (
	"math"
	"math/rand/v2"
	"slices"
	"testing"

	"blazon/api"
	"blazon/light"
)

// P3.7: Corrected, with the chapter's example and at its limits.
func TestCorrected(t *testing.T) {
	hundred := slices.Repeat([]api.Reading{{Minute: 3, Value: 7}}, 100)
	for _, c := range []struct {
		name        string
		readings    []api.Reading
		first, last api.Reading
		reference   int
		want        []int
	}{
		{"example", []api.Reading{{Minute: 5, Value: 100}}, api.Reading{Minute: 0, Value: 200}, api.Reading{Minute: 10, Value: 210}, 200, []int{97}},
		{"nil", nil, api.Reading{Minute: 0, Value: 200}, api.Reading{Minute: 10, Value: 210}, 200, nil},
		{"empty", []api.Reading{}, api.Reading{Minute: 0, Value: 1}, api.Reading{Minute: 1, Value: 1}, 1, nil},
		{
			"in their order, at the ends too",
			[]api.Reading{{Minute: 20, Value: 210}, {Minute: 10, Value: 200}, {Minute: 15, Value: 0}, {Minute: 15, Value: 41}},
			api.Reading{Minute: 10, Value: 200}, api.Reading{Minute: 20, Value: 210}, 200, []int{200, 200, 0, 40},
		},
		{"100 readings", hundred, api.Reading{Minute: 2, Value: 9}, api.Reading{Minute: 4, Value: 9}, 9, slices.Repeat([]int{7}, 100)},
		{"hidden behind", append(slices.Clone(hundred), api.Reading{Value: -1})[:100], api.Reading{Minute: 2, Value: 9}, api.Reading{Minute: 4, Value: 9}, 9, slices.Repeat([]int{7}, 100)},
		{
			"greatest", []api.Reading{{Minute: 1000000, Value: 100000}, {Minute: 0, Value: 100000}},
			api.Reading{Minute: 0, Value: 100000}, api.Reading{Minute: 1000000, Value: 95000}, 100000, []int{105263, 100000},
		},
		{"latest", []api.Reading{{Minute: 999999, Value: 5}}, api.Reading{Minute: 999999, Value: 20}, api.Reading{Minute: 1000000, Value: 21}, 20, []int{5}},
		{"drift down at both ends", []api.Reading{{Minute: 1, Value: 19}}, api.Reading{Minute: 0, Value: 19}, api.Reading{Minute: 1, Value: 19}, 20, []int{20}},
		{"drift up at both ends", []api.Reading{{Minute: 1, Value: 42}}, api.Reading{Minute: 0, Value: 42}, api.Reading{Minute: 1, Value: 42}, 40, []int{40}},
	} {
		got, err := light.Corrected(c.readings, c.first, c.last, c.reference)
		if !slices.Equal(got, c.want) || err != api.OK {
			t.Errorf("%s: Corrected returns %v, error %d, not %v", c.name, got, err, c.want)
		}
	}
}

// badRows returns arguments of Corrected of which one is out of its range, some of them with too great a drift.
func badRows() []row {
	good := row{[]api.Reading{{Minute: 5, Value: 100}}, api.Reading{Minute: 2, Value: 200}, api.Reading{Minute: 10, Value: 210}, 200}
	var rows []row
	change := func(change func(r *row)) {
		r := good
		r.readings = slices.Clone(good.readings)
		change(&r)
		rows = append(rows, r)
	}
	for _, n := range []int{0, -1, 100001, math.MinInt, math.MaxInt} {
		change(func(r *row) { r.reference = n })
		change(func(r *row) { r.first.Value = n })
		change(func(r *row) { r.last.Value = n })
		if n != 0 {
			change(func(r *row) { r.readings[0].Value = n })
			change(func(r *row) { r.readings = append(r.readings, api.Reading{Minute: 6, Value: n}) })
		}
	}
	for _, n := range []int{-1, 1000001, math.MinInt, math.MaxInt} {
		change(func(r *row) { r.first.Minute = n })
		change(func(r *row) { r.last.Minute = n })
		change(func(r *row) { r.readings[0].Minute = n })
		change(func(r *row) { r.readings = nil; r.first.Minute = n })
		change(func(r *row) { r.readings = nil; r.last.Minute = n })
	}
	change(func(r *row) { r.readings = nil; r.last.Minute = 2 })
	change(func(r *row) { r.readings = nil; r.last.Minute = 1 })
	change(func(r *row) { r.readings = nil; r.first.Minute, r.last.Minute = 1000000, 1000000 })
	change(func(r *row) { r.readings = nil; r.first.Minute, r.last.Minute = 1000000, 1000001 })
	change(func(r *row) { r.readings = nil; r.first.Minute, r.last.Minute = math.MaxInt, math.MinInt })
	change(func(r *row) { r.readings[0].Minute = 2; r.last.Minute = 2 })
	change(func(r *row) { r.readings[0].Minute = 1 })
	change(func(r *row) { r.readings[0].Minute = 11 })
	change(func(r *row) { r.readings = slices.Repeat(r.readings, 101) })
	return rows
}

type row struct {
	readings    []api.Reading
	first, last api.Reading
	reference   int
}

// P3.7: the errors of Corrected and their order.
func TestCorrectedErrors(t *testing.T) {
	want := func(r row, e api.Errno) {
		t.Helper()
		if got, err := light.Corrected(r.readings, r.first, r.last, r.reference); len(got) != 0 || err != e {
			t.Errorf("Corrected of %v: %v, error %d, not %d", r, got, err, e)
		}
	}
	for _, r := range badRows() {
		want(r, api.ErrArg)
		// the drift comes behind it; a reference that is bad is so with any reading
		if r.first.Value == 200 {
			r.first.Value = 100
			want(r, api.ErrArg)
		}
	}
	for _, c := range [][3]int{{211, 200, 200}, {189, 200, 200}, {200, 211, 200}, {200, 189, 200}, {211, 189, 200}, {1, 2, 1}, {2, 1, 1}, {18, 19, 19}, {100000, 1, 1}, {1, 100000, 100000}, {94999, 100000, 100000}} {
		r := row{nil, api.Reading{Minute: 0, Value: c[0]}, api.Reading{Minute: 1, Value: c[1]}, c[2]}
		want(r, api.ErrDrift)
		r.readings = []api.Reading{{Minute: 1, Value: 5}}
		want(r, api.ErrDrift)
	}
	for _, c := range [][3]int{{210, 190, 200}, {190, 210, 200}, {19, 19, 19}, {95000, 100000, 100000}, {19, 21, 20}} {
		want(row{nil, api.Reading{Minute: 0, Value: c[0]}, api.Reading{Minute: 1, Value: c[1]}, c[2]}, api.OK)
	}
}

// someRow returns valid arguments of Corrected.
func someRow(r *rand.Rand) row {
	var one row
	one.reference = 1 + r.IntN([]int{60, 1000, 100000}[r.IntN(3)])
	drift := one.reference / 20
	near := func() int { return min(one.reference-drift+r.IntN(2*drift+1), 100000) }
	t1 := r.IntN([]int{1, 100, 999999}[r.IntN(3)])
	t2 := t1 + 1 + r.IntN(min(1000000-t1, []int{1, 100, 1000000}[r.IntN(3)]))
	one.first, one.last = api.Reading{Minute: t1, Value: near()}, api.Reading{Minute: t2, Value: near()}
	for range r.IntN(8) {
		one.readings = append(one.readings, api.Reading{Minute: t1 + r.IntN(t2-t1+1), Value: r.IntN([]int{500, 100001}[r.IntN(2)])})
	}
	return one
}

// P3.7, R5: Corrected by exact numbers. R4: it does not change the readings.
func TestCorrectedExactly(t *testing.T) {
	r := rand.New(rand.NewPCG(37, 1))
	for range 5000 {
		one := someRow(r)
		kept := slices.Clone(one.readings)
		got, err := light.Corrected(one.readings, one.first, one.last, one.reference)
		if len(got) != len(one.readings) || err != api.OK {
			t.Fatalf("Corrected of %v: %v, error %d", one, got, err)
		}
		for k, reading := range one.readings {
			if want := exactCorrected(reading, one.first, one.last, one.reference); got[k] != want {
				t.Fatalf("Corrected of %v: %v, wrong at %d", one, got, k)
			}
		}
		if !slices.Equal(one.readings, kept) {
			t.Fatalf("Corrected changed %v to %v", kept, one.readings)
		}
	}
}

// P3.12: an instrument that reads the reference at both ends is right.
func TestInstruments(t *testing.T) {
	r := rand.New(rand.NewPCG(312, 1))
	for range 2000 {
		one := someRow(r)
		one.first.Value, one.last.Value = one.reference, one.reference
		got, err := light.Corrected(one.readings, one.first, one.last, one.reference)
		if len(got) != len(one.readings) || err != api.OK {
			t.Fatalf("Corrected of %v: %v, error %d", one, got, err)
		}
		for k, reading := range one.readings {
			if got[k] != reading.Value {
				t.Fatalf("Corrected of %v: %v", one, got)
			}
		}
	}
}

// P3.8: Accepted.
func TestAccepted(t *testing.T) {
	for _, c := range []struct {
		values []int
		least  int
		want   bool
	}{
		{[]int{100}, 100, true},
		{[]int{99}, 100, false},
		{[]int{0}, 0, true},
		{[]int{0}, 1, false},
		{[]int{100, 101}, 100, true},
		{[]int{100, 99}, 100, false}, // the mean is 99.5
		{[]int{101, 99}, 100, true},
		{[]int{80, 120}, 100, true},
		{[]int{79, 121}, 100, false},
		{[]int{79, 500}, 100, false},
		{[]int{121, 79}, 100, false},
		{[]int{500, 79, 500}, 100, false},
		{[]int{80, 119}, 100, false},
		{[]int{1, 2}, 1, true},
		{[]int{0, 100}, 1, false},
		{[]int{3, 9}, 4, false}, // 8 tenths of it are 3.2
		{[]int{4, 9}, 5, true},  // 8 tenths of it are 4
		{[]int{100000}, 100000, true},
		{[]int{100000}, 0, true},
		{[]int{80000}, 100000, false},
		{slices.Repeat([]int{100000}, 100), 100000, true},
		{append(slices.Repeat([]int{100000}, 99), 99999), 100000, false},
		{append(slices.Repeat([]int{100000}, 99), 99999), 99999, true},
		{append(slices.Repeat([]int{5}, 100), -1)[:100], 5, true},
	} {
		if got, err := light.Accepted(c.values, c.least); got != c.want || err != api.OK {
			t.Errorf("Accepted of %v with %d: %v, error %d", c.values, c.least, got, err)
		}
	}
}

// P3.8: the errors of Accepted.
func TestAcceptedErrors(t *testing.T) {
	want := func(values []int, least int) {
		t.Helper()
		if got, err := light.Accepted(values, least); got || err != api.ErrArg {
			t.Errorf("Accepted of %v with %d: %v, error %d", values, least, got, err)
		}
	}
	want(nil, 0)
	want([]int{}, 100)
	want(slices.Repeat([]int{5}, 101), 5)
	for _, n := range []int{-1, 100001, math.MinInt, math.MaxInt} {
		want([]int{5}, n)
		want([]int{n}, 5)
		want([]int{n, 5}, 0)
		want([]int{5, 5, n}, 0)
		want([]int{1, 100000, n}, 100000)
	}
}
