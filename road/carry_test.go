package road_test

import (
	"math"
	"math/rand/v2"
	"slices"
	"testing"

	"blazon/api"
	"blazon/road"
)

func span(from, to int) api.Span {
	return api.Span{From: from, To: to}
}

// carries are places of the good road, and where they are carried to, or -1 where they are lost.
func carries() [][4]int {
	return [][4]int{
		// c, from, to, carried
		{0, 0, 0, 0}, {1000, 0, 0, 1000}, {790, 4, 4, 790}, {300, 2, 2, 300},
		{199, 0, 1, 199}, {200, 0, 1, 200}, {201, 0, 1, -1}, {499, 0, 1, -1}, {500, 0, 1, 300}, {501, 0, 1, 301}, {1000, 0, 1, 800},
		{199, 1, 0, 199}, {200, 1, 0, 200}, {201, 1, 0, -1}, {299, 1, 0, -1}, {300, 1, 0, 500}, {301, 1, 0, 501}, {800, 1, 0, 1000},
		// nothing is put in
		{0, 1, 2, 0}, {1, 1, 2, -1}, {49, 1, 2, -1}, {50, 1, 2, 0}, {51, 1, 2, 1}, {800, 1, 2, 750},
		{0, 2, 1, 0}, {1, 2, 1, 51}, {750, 2, 1, 800},
		// nothing is taken out
		{299, 2, 3, 299}, {300, 2, 3, 300}, {301, 2, 3, 341}, {750, 2, 3, 790},
		{299, 3, 2, 299}, {300, 3, 2, 300}, {301, 3, 2, -1}, {339, 3, 2, -1}, {340, 3, 2, 300}, {341, 3, 2, 301}, {790, 3, 2, 750},
		// as much is put in as is taken out, at the end
		{700, 3, 4, 700}, {701, 3, 4, -1}, {789, 3, 4, -1}, {790, 3, 4, 790},
		{700, 4, 3, 700}, {701, 4, 3, -1}, {789, 4, 3, -1}, {790, 4, 3, 790},
		// several steps
		{600, 0, 4, 390}, {20, 0, 1, 20}, {20, 0, 2, -1}, {50, 0, 4, 0}, {500, 0, 4, 250}, {550, 0, 4, 300}, {551, 0, 4, 341},
		{1000, 0, 4, 790}, {950, 0, 3, 740}, {950, 0, 4, -1},
		{790, 4, 0, 1000}, {700, 4, 0, 910}, {390, 4, 0, 600}, {750, 4, 0, -1}, {320, 4, 0, -1}, {340, 4, 0, 550}, {300, 4, 0, 550},
		{0, 4, 0, 0}, {1, 4, 0, 51}, {150, 4, 0, 200}, {200, 4, 0, -1},
	}
}

// P6.3: Carry, with the chapter's first example.
func TestCarry(t *testing.T) {
	for _, c := range carries() {
		got, err := road.Carry(good(), c[0], c[1], c[2])
		if c[3] < 0 && (got != 0 || err != api.ErrLost) || c[3] >= 0 && (got != c[3] || err != api.OK) {
			t.Errorf("Carry of %d from %d to %d: %d, error %d, not %d", c[0], c[1], c[2], got, err, c[3])
		}
	}
	for _, c := range [][2]int{{600, 400}, {500, 300}} {
		if got, err := road.Carry(example(), c[0], 0, 1); got != c[1] || err != api.OK {
			t.Errorf("Carry of the example's %d: %d, error %d", c[0], got, err)
		}
	}
	if got, err := road.Carry(example(), 300, 0, 1); got != 0 || err != api.ErrLost {
		t.Errorf("Carry of the example's 300: %d, error %d", got, err)
	}
}

// P6.3: the ends of the greatest road stay, and all else of it is lost; the only place of the least road stays.
func TestCarryLimits(t *testing.T) {
	for _, versions := range [][2]int{{0, 40}, {40, 0}, {0, 1}, {40, 39}} {
		for _, c := range []int{0, maxChain} {
			if got, err := road.Carry(greatest(), c, versions[0], versions[1]); got != c || err != api.OK {
				t.Errorf("Carry of %d at %v: %d, error %d", c, versions, got, err)
			}
		}
		for _, c := range []int{1, maxChain / 2, maxChain - 1} {
			if got, err := road.Carry(greatest(), c, versions[0], versions[1]); got != 0 || err != api.ErrLost {
				t.Errorf("Carry of %d at %v: %d, error %d", c, versions, got, err)
			}
		}
		if got, err := road.Carry(least(), 0, versions[0], versions[1]); got != 0 || err != api.OK {
			t.Errorf("Carry of 0 at %v on the least road: %d, error %d", versions, got, err)
		}
	}
	longer := api.Road{Number: 1, Changes: []api.Change{{New: maxChain}, {To: maxChain}}}
	for _, c := range [][4]int{{0, 0, 1, 0}, {maxChain, 1, 0, 0}, {0, 1, 0, 0}, {maxChain, 1, 2, 0}, {0, 0, 2, 0}, {0, 2, 0, 0}} {
		if got, err := road.Carry(longer, c[0], c[1], c[2]); got != c[3] || err != api.OK {
			t.Errorf("Carry of %v: %d, error %d", c, got, err)
		}
	}
}

// P6.3: no place of its version, also where it would be lost; the length is that of the version from.
func TestCarryErrArg(t *testing.T) {
	for _, c := range [][3]int{
		{-1, 0, 1}, {1001, 0, 1}, {801, 1, 0}, {1000, 1, 0}, {751, 2, 0}, {791, 4, 0}, {math.MinInt, 0, 4}, {math.MaxInt, 0, 4},
		{math.MinInt, 4, 0}, {math.MaxInt, 4, 0}, {-1, 2, 2}, {751, 2, 2},
	} {
		if got, err := road.Carry(good(), c[0], c[1], c[2]); got != 0 || err != api.ErrArg {
			t.Errorf("Carry of %v: %d, error %d", c, got, err)
		}
	}
}

// P6.3: Same; one of the two ways is enough.
func TestSame(t *testing.T) {
	for _, c := range []struct {
		c, v, d, w int
		want       bool
	}{
		{600, 0, 390, 4, true}, {600, 0, 391, 4, false}, {600, 0, 600, 0, true}, {600, 0, 601, 0, false},
		{0, 1, 0, 2, true}, {50, 1, 0, 2, true}, {25, 1, 0, 2, false}, {51, 1, 1, 2, true}, {51, 1, 0, 2, false},
		{300, 2, 300, 3, true}, {300, 2, 340, 3, true}, {300, 2, 320, 3, false}, {300, 2, 341, 3, false},
		{299, 2, 300, 3, false}, {301, 2, 340, 3, false}, {301, 2, 341, 3, true},
		{700, 3, 790, 4, false}, {750, 3, 750, 4, false}, {790, 3, 790, 4, true},
		{250, 0, 250, 1, false}, {250, 0, 200, 1, false}, {500, 0, 300, 1, true}, {20, 0, 0, 4, false},
		{50, 0, 0, 4, true}, {0, 0, 0, 4, true}, {550, 0, 300, 4, true}, {550, 0, 340, 4, true},
	} {
		if got, err := road.Same(good(), c.c, c.v, c.d, c.w); got != c.want || err != api.OK {
			t.Errorf("Same of %v: %v, error %d", c, got, err)
		}
		if got, err := road.Same(good(), c.d, c.w, c.c, c.v); got != c.want || err != api.OK {
			t.Errorf("Same of %v, exchanged: %v, error %d", c, got, err)
		}
	}
	for _, c := range [][4]int{
		{-1, 0, 0, 1}, {1001, 0, 0, 1}, {0, 0, -1, 1}, {0, 0, 801, 1}, {801, 1, 0, 0}, {250, 0, 801, 1}, {791, 4, 791, 4},
		{math.MinInt, 0, 0, 1}, {math.MaxInt, 0, 0, 1}, {0, 0, math.MinInt, 1}, {0, 0, math.MaxInt, 1},
		{math.MaxInt, 0, math.MaxInt, 0}, {math.MinInt, 0, math.MinInt, 0},
	} {
		if got, err := road.Same(good(), c[0], c[1], c[2], c[3]); got || err != api.ErrArg {
			t.Errorf("Same of %v: %v, error %d", c, got, err)
		}
	}
}

// P6.4: Kept, with the chapter's first example.
func TestKept(t *testing.T) {
	long := api.Road{Number: 1, Changes: []api.Change{{New: maxChain}, {To: maxChain}}}
	cut := api.Road{Number: 1, Length: 600, Changes: []api.Change{{From: 300, To: 400}, {From: 300, To: 300, New: 7}}}
	for _, c := range []struct {
		r        api.Road
		s        api.Span
		from, to int
		want     []api.Span
	}{
		{example(), span(100, 700), 0, 1, []api.Span{span(100, 200), span(300, 500)}},
		{good(), span(0, 1000), 0, 4, []api.Span{span(0, 150), span(250, 300), span(340, 700)}},
		{good(), span(0, 790), 4, 0, []api.Span{span(50, 200), span(500, 910)}},
		{good(), span(0, 1000), 0, 0, []api.Span{span(0, 1000)}},
		{good(), span(250, 251), 0, 0, []api.Span{span(250, 251)}},
		{good(), span(200, 500), 0, 1, nil},
		{good(), span(199, 500), 0, 1, []api.Span{span(199, 200)}},
		{good(), span(200, 501), 0, 1, []api.Span{span(300, 301)}},
		{good(), span(100, 200), 0, 1, []api.Span{span(100, 200)}},
		{good(), span(500, 600), 0, 1, []api.Span{span(300, 400)}},
		{good(), span(200, 300), 1, 0, nil},
		{good(), span(199, 301), 1, 0, []api.Span{span(199, 200), span(500, 501)}},
		{good(), span(20, 60), 1, 2, []api.Span{span(0, 10)}},
		{good(), span(0, 50), 1, 2, nil},
		{good(), span(0, 10), 2, 1, []api.Span{span(50, 60)}},
		// nothing is taken out: the stretch is parted, and joined on the way back
		{good(), span(290, 310), 2, 3, []api.Span{span(290, 300), span(340, 350)}},
		{good(), span(290, 300), 2, 3, []api.Span{span(290, 300)}},
		{good(), span(300, 310), 2, 3, []api.Span{span(340, 350)}},
		{good(), span(290, 350), 3, 2, []api.Span{span(290, 310)}},
		{good(), span(300, 340), 3, 2, nil},
		{good(), span(700, 790), 3, 4, nil},
		{good(), span(700, 790), 4, 3, nil},
		// nothing is put in: the two stretches touch, and are parted on the way back, or by the next change
		{cut, span(200, 500), 0, 1, []api.Span{span(200, 400)}},
		{cut, span(200, 400), 1, 0, []api.Span{span(200, 300), span(400, 500)}},
		{cut, span(200, 500), 0, 2, []api.Span{span(200, 300), span(307, 407)}},
		{cut, span(200, 407), 2, 0, []api.Span{span(200, 300), span(400, 500)}},
		// the limits
		{greatest(), span(0, maxChain), 0, 0, []api.Span{span(0, maxChain)}},
		{greatest(), span(0, maxChain), 0, 40, nil},
		{greatest(), span(0, maxChain), 40, 0, nil},
		{long, span(0, maxChain), 1, 2, nil},
		{long, span(maxChain-1, maxChain), 1, 1, []api.Span{span(maxChain-1, maxChain)}},
	} {
		if got, err := road.Kept(c.r, c.s, c.from, c.to); !slices.Equal(got, c.want) || err != api.OK {
			t.Errorf("Kept of %v from %d to %d: %v, error %d, not %v", c.s, c.from, c.to, got, err, c.want)
		}
	}
}

// P6.4: no stretch of its version.
func TestKeptErrArg(t *testing.T) {
	for _, c := range []struct {
		s        api.Span
		from, to int
	}{
		{span(0, 0), 0, 1}, {span(1000, 1000), 0, 1}, {span(5, 5), 0, 0}, {span(6, 5), 0, 1}, {span(-1, 5), 0, 1}, {span(0, 1001), 0, 1},
		{span(0, 801), 1, 0}, {span(0, 751), 2, 0}, {span(0, 791), 4, 4}, {span(1001, 1002), 0, 1}, {span(-2, -1), 0, 1},
		{span(math.MinInt, math.MaxInt), 0, 1}, {span(math.MaxInt, math.MinInt), 0, 1}, {span(0, math.MaxInt), 0, 1}, {span(math.MinInt, 5), 0, 1},
	} {
		if got, err := road.Kept(good(), c.s, c.from, c.to); len(got) != 0 || err != api.ErrArg {
			t.Errorf("Kept of %v from %d to %d: %v, error %d", c.s, c.from, c.to, got, err)
		}
	}
	if got, err := road.Kept(least(), span(0, 0), 0, 1); len(got) != 0 || err != api.ErrArg {
		t.Errorf("Kept of nothing: %v, error %d", got, err)
	}
}

// P6.4: Gone.
func TestGone(t *testing.T) {
	long := api.Road{Number: 1, Changes: []api.Change{{New: maxChain}, {To: maxChain}}}
	for _, c := range []struct {
		r              api.Road
		from, to, want int
	}{
		{example(), 0, 1, 300}, {example(), 1, 0, 100}, {example(), 0, 0, 0}, {example(), 1, 1, 0},
		{good(), 0, 4, 440}, {good(), 4, 0, 230}, {good(), 1, 2, 50}, {good(), 2, 1, 0}, {good(), 2, 3, 0}, {good(), 3, 2, 40},
		{good(), 3, 4, 90}, {good(), 4, 3, 90}, {good(), 3, 3, 0},
		{greatest(), 0, 40, maxChain}, {greatest(), 40, 0, maxChain}, {greatest(), 7, 7, 0}, {least(), 0, 40, 0}, {least(), 40, 0, 0}, {least(), 3, 3, 0},
		{long, 0, 1, 0}, {long, 1, 0, maxChain}, {long, 1, 2, maxChain}, {long, 2, 1, 0}, {long, 0, 2, 0}, {long, 2, 0, 0},
	} {
		if got, err := road.Gone(c.r, c.from, c.to); got != c.want || err != api.OK {
			t.Errorf("Gone from %d to %d: %d, error %d, not %d", c.from, c.to, got, err, c.want)
		}
	}
}

// R4: the stretches of Kept are new memory.
func TestKeptIsNew(t *testing.T) {
	first, _ := road.Kept(good(), span(0, 1000), 0, 4)
	first[0] = span(-7, -7)
	_ = append(first[:1], span(-7, -7))
	want := []api.Span{span(0, 150), span(250, 300), span(340, 700)}
	if second, err := road.Kept(good(), span(0, 1000), 0, 4); !slices.Equal(second, want) || err != api.OK {
		t.Errorf("Kept after a change of its result: %v, error %d", second, err)
	}
}

// journeys calls f with some roads and two versions of each.
func journeys(seed uint64, f func(r *rand.Rand, way api.Road, from, to int)) {
	r := rand.New(rand.NewPCG(6, seed))
	for range 4000 {
		way := someRoad(r)
		f(r, way, r.IntN(len(way.Changes)+1), r.IntN(len(way.Changes)+1))
	}
}

// P6.2 to P6.4: all is as the second way says.
func TestSomeRoads(t *testing.T) {
	journeys(3, func(r *rand.Rand, way api.Road, from, to int) {
		metres := referenceMetres(way)
		length, other := len(metres[from]), len(metres[to])
		if got, err := road.Length(way, from); !road.Valid(way) || got != length || err != api.OK {
			t.Fatalf("Length of %v at %d: %d, error %d", way, from, got, err)
		}
		for c := range length + 1 {
			places, ok := referenceCarry(way, c, from, to)
			got, err := road.Carry(way, c, from, to)
			if ok && (got != places[len(places)-1] || err != api.OK) || !ok && (got != 0 || err != api.ErrLost) {
				t.Fatalf("Carry of %v, %d from %d to %d: %d, error %d", way, c, from, to, got, err)
			}
			d := r.IntN(other + 1)
			back, okBack := referenceCarry(way, d, to, from)
			same := ok && places[len(places)-1] == d || okBack && back[len(back)-1] == c
			if got, err := road.Same(way, c, from, d, to); got != same || err != api.OK {
				t.Fatalf("Same of %v, %d at %d and %d at %d: %v, error %d", way, c, from, d, to, got, err)
			}
			if c == length {
				continue
			}
			s := span(c, upTo(r, c+1, length))
			if got, err := road.Kept(way, s, from, to); !slices.Equal(got, referenceKept(way, s, from, to)) || err != api.OK {
				t.Fatalf("Kept of %v, %v from %d to %d: %v, error %d", way, s, from, to, got, err)
			}
		}
		gone := length - len(metresOf(referenceKept(way, span(0, length), from, to)))
		if got, err := road.Gone(way, from, to); got != gone || err != api.OK {
			t.Fatalf("Gone of %v from %d to %d: %d, error %d", way, from, to, got, err)
		}
	})
}

// P6.2: At counts the changes that are not later.
func TestSomeDays(t *testing.T) {
	journeys(2, func(r *rand.Rand, way api.Road, _, _ int) {
		day, want := r.IntN(20), 0
		for _, ch := range way.Changes {
			if ch.Day <= day {
				want++
			}
		}
		if got, err := road.At(way, day); got != want || err != api.OK {
			t.Fatalf("At of %v on day %d: %d, error %d", way, day, got, err)
		}
	})
}

// P6.9: a place is carried in steps as it is at once.
func TestSteps(t *testing.T) {
	journeys(9, func(r *rand.Rand, way api.Road, from, to int) {
		length, _ := road.Length(way, from)
		between := min(from, to) + r.IntN(max(from, to)-min(from, to)+1)
		for c := range length + 1 {
			once, e1 := road.Carry(way, c, from, to)
			half, e2 := road.Carry(way, c, from, between)
			if e2 != api.OK {
				if e1 != api.ErrLost {
					t.Fatalf("%v: %d is lost from %d to %d, but not to %d: error %d", way, c, from, between, to, e1)
				}
				continue
			}
			if twice, e3 := road.Carry(way, half, between, to); twice != once || e3 != e1 {
				t.Fatalf("%v: %d from %d over %d to %d: %d, error %d, not %d, error %d", way, c, from, between, to, twice, e3, once, e1)
			}
		}
	})
}

// P6.9: a place that is carried there and back comes back, where no end of a change with an empty side is met.
func TestThereAndBack(t *testing.T) {
	back := 0
	journeys(10, func(r *rand.Rand, way api.Road, from, to int) {
		length, _ := road.Length(way, from)
		for c := range length + 1 {
			places, ok := referenceCarry(way, c, from, to)
			if !ok || meetsEmptySide(way, places, from, to) {
				continue
			}
			there, _ := road.Carry(way, c, from, to)
			if got, err := road.Carry(way, there, to, from); got != c || err != api.OK {
				t.Fatalf("%v: %d from %d to %d and back: %d, error %d", way, c, from, to, got, err)
			}
			back++
		}
	})
	if back < 1000 {
		t.Errorf("only %d places were carried there and back", back)
	}
}

func meetsEmptySide(way api.Road, places []int, from, to int) bool {
	for i, c := range places[:len(places)-1] {
		change := from + i
		if to < from {
			change = from - i - 1
		}
		ch := way.Changes[change]
		ends := []int{ch.From, ch.To, ch.From + ch.New}
		if (ch.From == ch.To || ch.New == 0) && (slices.Contains(ends, c) || slices.Contains(ends, places[i+1])) {
			return true
		}
	}
	return false
}

// P6.10: what is kept is not longer, and what is gone on both ways is the difference of the lengths.
func TestLengths(t *testing.T) {
	journeys(11, func(r *rand.Rand, way api.Road, from, to int) {
		length, _ := road.Length(way, from)
		other, _ := road.Length(way, to)
		gone, _ := road.Gone(way, from, to)
		back, _ := road.Gone(way, to, from)
		if other != length-gone+back {
			t.Fatalf("%v: %d metres at %d, %d at %d, gone %d and %d", way, length, from, other, to, gone, back)
		}
		for c := range length {
			s := span(c, upTo(r, c+1, length))
			kept, _ := road.Kept(way, s, from, to)
			if metres, err := road.Total(kept); metres > s.To-s.From || err != api.OK {
				t.Fatalf("%v: of %v are kept %v, error %d", way, s, kept, err)
			}
		}
	})
}

// P6.11: places that are carried stay in order.
func TestOrder(t *testing.T) {
	journeys(12, func(_ *rand.Rand, way api.Road, from, to int) {
		length, _ := road.Length(way, from)
		last := 0
		for c := range length + 1 {
			got, err := road.Carry(way, c, from, to)
			if err != api.OK {
				continue
			}
			if got < last {
				t.Fatalf("%v: %d from %d to %d: %d, in front of %d", way, c, from, to, got, last)
			}
			last = got
		}
	})
}
