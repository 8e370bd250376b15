package cut_test

import (
	"math"
	"math/rand/v2"
	"slices"
	"testing"

	"blazon/api"
	"blazon/cut"
)

// twoKinds are the kinds of the chapter's second example.
func twoKinds() []api.Kind {
	return []api.Kind{{W: 40, H: 30}, {W: 60, H: 48}}
}

// P4.8: Places, with the chapter's example.
func TestPlaces(t *testing.T) {
	one := []api.Kind{{W: 1, H: 1}}
	all := slices.Repeat([]api.Kind{{W: 1000, H: 1000}}, 26)
	for _, c := range []struct {
		text       string
		w, h, kerf int
		kinds      []api.Kind
		want       []api.Place
	}{
		{"h 30 (v 40 (a, _), b)", 100, 80, 2, twoKinds(), []api.Place{{Piece: 'a', W: 40, H: 30}, {Piece: 'b', Y: 32, W: 60, H: 48}}},
		{"v 60 (h 48 (b, _), h 30 (a, h 30 (a, _)))", 120, 80, 5, twoKinds(), []api.Place{
			{Piece: 'b', W: 60, H: 48}, {Piece: 'a', X: 65, W: 40, H: 30}, {Piece: 'a', X: 65, Y: 35, W: 40, H: 30}}},
		{"v 9 (_, v 8 (_, h 7 (_, h 6 (_, a))))", 20, 16, 1, one, []api.Place{{Piece: 'a', X: 19, Y: 15, W: 1, H: 1}}},
		{"v 9 (_, v 8 (_, h 7 (_, h 6 (_, a))))", 18, 14, 0, one, []api.Place{{Piece: 'a', X: 17, Y: 13, W: 1, H: 1}}},
		{"z", 1000, 1000, 20, all, []api.Place{{Piece: 'z', W: 1000, H: 1000}}},
		{"v 979 (a, a)", 1000, 1, 20, one, []api.Place{{Piece: 'a', W: 1, H: 1}, {Piece: 'a', X: 999, W: 1, H: 1}}},
		{"h 979 (a, a)", 1, 1000, 20, one, []api.Place{{Piece: 'a', W: 1, H: 1}, {Piece: 'a', Y: 999, W: 1, H: 1}}},
		{"_", 1, 1, 0, nil, nil},
		{"_", 1000, 1000, 20, []api.Kind{}, nil},
		{"h 1 (_, _)", 1, 2, 0, nil, nil},
	} {
		l, e := cut.Places(c.text, c.w, c.h, c.kerf, c.kinds)
		if !slices.Equal(l, c.want) || e != api.OK {
			t.Errorf("Places(%q): %v, error %d, not %v", c.text, l, e, c.want)
		}
	}
}

// P4.8: the errors of Places, in their order.
func TestPlacesErrors(t *testing.T) {
	for _, c := range []struct {
		text       string
		w, h, kerf int
		want       api.Errno
	}{
		{"a", 0, 80, 2, api.ErrArg},
		{"a", 1001, 80, 2, api.ErrArg},
		{"a", 100, 0, 2, api.ErrArg},
		{"a", 100, 1001, 2, api.ErrArg},
		{"a", 100, 80, -1, api.ErrArg},
		{"a", 100, 80, 21, api.ErrArg},
		{"a", math.MinInt, 80, 2, api.ErrArg},
		{"a", 100, math.MinInt, 2, api.ErrArg},
		{"a", 100, 80, math.MaxInt, api.ErrArg},
		{"?", 0, 80, 2, api.ErrArg},
		{long(2001), 100, 80, 21, api.ErrArg},
		{"z", 100, 1001, 2, api.ErrArg},
		{"", 100, 80, 2, api.ErrForm},
		{"h 200 (z, z", 100, 80, 2, api.ErrForm},
		{long(2001), 100, 80, 2, api.ErrDeep},
		{nested(21), 100, 80, 2, api.ErrDeep},
		{"h 200 (z, " + nested(20) + ")", 100, 80, 2, api.ErrDeep},
		// a kind that is not there, or a part that is not
		{"c", 100, 80, 2, api.ErrPlace},
		{"z", 100, 80, 2, api.ErrPlace},
		{"h 30 (a, c)", 100, 80, 2, api.ErrPlace},
		{"h 78 (_, _)", 100, 80, 2, api.ErrPlace},
		{"h 79 (_, _)", 100, 80, 2, api.ErrPlace},
		{"h 80 (_, _)", 100, 80, 2, api.ErrPlace},
		{"h 81 (_, _)", 100, 80, 2, api.ErrPlace},
		{"h 1000 (_, _)", 100, 80, 2, api.ErrPlace},
		{"h 77 (_, _)", 100, 80, 2, api.OK},
		{"v 98 (_, _)", 100, 80, 2, api.ErrPlace},
		{"v 100 (_, _)", 100, 80, 2, api.ErrPlace},
		{"v 1000 (_, _)", 100, 80, 2, api.ErrPlace},
		{"v 97 (_, _)", 100, 80, 2, api.OK},
		{"v 1 (_, _)", 2, 80, 0, api.OK},
		{"v 1 (_, _)", 2, 80, 1, api.ErrPlace},
		{"v 40 (h 30 (_, _), h 79 (_, _))", 100, 80, 2, api.ErrPlace},
		{"h 30 (h 28 (_, _), _)", 100, 80, 2, api.ErrPlace},
		{"h 31 (h 28 (_, _), _)", 100, 80, 2, api.OK},
		// ErrPlace comes before ErrSmall, wherever in the text
		{"h 10 (a, c)", 100, 80, 2, api.ErrPlace},
		{"h 10 (a, h 70 (_, _))", 100, 80, 2, api.ErrPlace},
		{"h 70 (h 69 (_, _), b)", 100, 80, 2, api.ErrPlace},
		{"b", 59, 48, 2, api.ErrSmall},
		{"b", 60, 47, 2, api.ErrSmall},
		{"b", 60, 48, 2, api.OK},
		{"h 29 (a, _)", 100, 80, 2, api.ErrSmall},
		{"h 31 (_, b)", 60, 81, 2, api.OK},
		{"h 32 (_, b)", 60, 81, 2, api.ErrSmall},
		{"v 39 (a, _)", 100, 80, 2, api.ErrSmall},
		{"v 38 (_, b)", 100, 80, 2, api.OK},
		{"v 39 (_, b)", 100, 80, 2, api.ErrSmall},
		{"v 40 (h 30 (a, a), b)", 102, 62, 2, api.OK},
		{"v 40 (h 30 (a, a), b)", 102, 61, 2, api.ErrSmall},
	} {
		l, e := cut.Places(c.text, c.w, c.h, c.kerf, twoKinds())
		if e != c.want || e != api.OK && l != nil {
			t.Errorf("Places(%.50q, %d, %d, %d): %v, error %d, not %d", c.text, c.w, c.h, c.kerf, l, e, c.want)
		}
	}
}

// P4.8: kinds that are not as described are ErrArg, before the errors of Parse, for Places and Used.
func TestKinds(t *testing.T) {
	lists := [][]api.Kind{slices.Repeat([]api.Kind{{W: 1, H: 1}}, 27)}
	for _, n := range []int{-1, 0, 1001, math.MinInt, math.MaxInt} {
		lists = append(lists, []api.Kind{{W: n, H: 1}}, []api.Kind{{W: 1, H: n}}, []api.Kind{{W: 1, H: 1}, {W: 1, H: n}})
	}
	for _, kinds := range lists {
		for _, text := range []string{"a", "z", "", long(2001)} {
			if l, e := cut.Places(text, 100, 80, 2, kinds); l != nil || e != api.ErrArg {
				t.Errorf("Places(%.20q, %v): %v, error %d", text, kinds, l, e)
			}
			if l, e := cut.Used(text, kinds); l != nil || e != api.ErrArg {
				t.Errorf("Used(%.20q, %v): %v, error %d", text, kinds, l, e)
			}
		}
	}
	hidden := []api.Kind{{W: 1, H: 1}, {W: 0, H: 0}}[:1]
	if _, e := cut.Places("a", 5, 5, 0, hidden); e != api.OK {
		t.Errorf("Places with a kind behind the list's length: error %d", e)
	}
	if _, e := cut.Places("b", 5, 5, 0, hidden); e != api.ErrPlace {
		t.Errorf("Places of a kind behind the list's length: error %d", e)
	}
}

// P4.8: Used.
func TestUsed(t *testing.T) {
	three := []api.Kind{{W: 1, H: 1}, {W: 2, H: 2}, {W: 1000, H: 1000}}
	for text, want := range map[string][]int{
		"_":                                     {0, 0, 0},
		"c":                                     {0, 0, 1},
		"h 1000 (a, a)":                         {2, 0, 0},
		"h 30 (v 40 (a, _), b)":                 {1, 1, 0},
		"v 1 (h 2 (c, c), v 3 (h 4 (a, b), c))": {1, 1, 3},
	} {
		if l, e := cut.Used(text, three); !slices.Equal(l, want) || e != api.OK {
			t.Errorf("Used(%q): %v, error %d", text, l, e)
		}
	}
	if l, e := cut.Used("_", nil); len(l) != 0 || e != api.OK {
		t.Errorf("Used without kinds: %v, error %d", l, e)
	}
	for text, want := range map[string]api.Errno{
		"d": api.ErrPlace, "z": api.ErrPlace, "h 1 (a, v 1 (d, b))": api.ErrPlace, "": api.ErrForm, "d ": api.ErrForm,
		"D": api.ErrForm, long(2001): api.ErrDeep, nested(21): api.ErrDeep, "h 1 (z, " + nested(20) + ")": api.ErrDeep,
	} {
		if l, e := cut.Used(text, three); l != nil || e != want {
			t.Errorf("Used(%.20q): %v, error %d, not %d", text, l, e, want)
		}
	}
	if _, e := cut.Used("a", nil); e != api.ErrPlace {
		t.Errorf("Used of a kind that is not there: error %d", e)
	}
}

// someText returns the text of a tree for a plate, whose cuts are mostly within it.
func someText(random *rand.Rand, w, h, kerf, levels, kinds int) string {
	var tree func(w, h, level int) api.Cut
	tree = func(w, h, level int) api.Cut {
		if level >= levels || random.IntN(6) == 0 {
			if random.IntN(5) == 0 {
				return api.Cut{}
			}
			return piece(byte('a' + random.IntN(kinds)))
		}
		op, a := api.CutH, api.XY{X: w, Y: max(1, min(1000, random.IntN(max(h, 1))))}
		b := api.XY{X: w, Y: h - a.Y - kerf}
		n := a.Y
		if random.IntN(2) == 0 {
			op, a = api.CutV, api.XY{X: max(1, min(1000, random.IntN(max(w, 1)))), Y: h}
			b = api.XY{X: w - a.X - kerf, Y: h}
			n = a.X
		}
		return through(op, n, tree(a.X, a.Y, level+1), tree(b.X, b.Y, level+1))
	}
	return plainText(tree(w, h, 1))
}

// P4.8, P4.13: Places and Used are as the second way says, the places of a text never Clash, and a text has as many places
// as letters, those of Used.
func TestPlates(t *testing.T) {
	random := rand.New(rand.NewPCG(4, 13))
	found := map[api.Errno]int{}
	for range 20000 {
		w, h, kerf := 1+random.IntN(100), 1+random.IntN(100), random.IntN(3)
		kinds := make([]api.Kind, 1+random.IntN(4))
		for i := range kinds {
			kinds[i] = api.Kind{W: 1 + random.IntN(6), H: 1 + random.IntN(6)}
		}
		letters := len(kinds)
		if random.IntN(20) == 0 {
			letters++
		}
		text := someText(random, w, h, kerf, 1+random.IntN(5), letters)
		places, e := cut.Places(text, w, h, kerf, kinds)
		want, wantError := referencePlaces(text, w, h, kerf, kinds)
		if !slices.Equal(places, want) || e != wantError {
			t.Fatalf("Places(%q, %d, %d, %d, %v): %v, error %d, not %v, %d", text, w, h, kerf, kinds, places, e, want, wantError)
		}
		found[e]++
		if e != api.OK {
			continue
		}
		count := make([]int, len(kinds))
		for _, p := range places {
			count[p.Piece-'a']++
		}
		if used, e := cut.Used(text, kinds); !slices.Equal(used, count) || e != api.OK {
			t.Fatalf("Used(%q): %v, error %d", text, used, e)
		}
		if is, e := cut.Clash(places, w, h, kerf); is || e != api.OK {
			t.Fatalf("Clash of the places of %q: %v, error %d", text, is, e)
		}
	}
	for _, e := range []api.Errno{api.OK, api.ErrPlace, api.ErrSmall} {
		if found[e] < 500 {
			t.Errorf("only %d texts with the error %d", found[e], e)
		}
	}
}

// P4.9: Clash.
func TestClash(t *testing.T) {
	at := func(x, y, w, h int) api.Place { return api.Place{Piece: 'a', X: x, Y: y, W: w, H: h} }
	for _, c := range []struct {
		kerf   int
		places []api.Place
		want   bool
	}{
		{2, nil, false},
		{2, []api.Place{}, false},
		{20, []api.Place{at(0, 0, 100, 80)}, false},
		{0, []api.Place{at(0, 0, 101, 80)}, true},
		{0, []api.Place{at(0, 0, 100, 81)}, true},
		{0, []api.Place{at(1, 0, 100, 80)}, true},
		{0, []api.Place{at(0, 1, 100, 80)}, true},
		{20, []api.Place{at(99, 79, 1, 1)}, false},
		{0, []api.Place{at(100, 79, 1, 1)}, true},
		{0, []api.Place{at(99, 80, 1, 1)}, true},
		{0, []api.Place{at(1000, 1000, 1000, 1000)}, true},
		{0, []api.Place{at(0, 0, 10, 10), at(10, 0, 10, 10)}, false},
		{0, []api.Place{at(0, 0, 10, 10), at(9, 0, 10, 10)}, true},
		{0, []api.Place{at(0, 0, 10, 10), at(0, 10, 10, 10)}, false},
		{0, []api.Place{at(0, 0, 10, 10), at(0, 9, 10, 10)}, true},
		{0, []api.Place{at(0, 0, 10, 10), at(10, 10, 10, 10)}, false},
		{0, []api.Place{at(0, 0, 10, 10), at(0, 0, 10, 10)}, true},
		{0, []api.Place{at(0, 0, 30, 30), at(10, 10, 5, 5)}, true},
		{0, []api.Place{at(0, 10, 30, 5), at(10, 0, 5, 30)}, true},
		{3, []api.Place{at(0, 0, 10, 10), at(13, 0, 10, 10)}, false},
		{3, []api.Place{at(0, 0, 10, 10), at(12, 0, 10, 10)}, true},
		{3, []api.Place{at(0, 0, 10, 10), at(0, 13, 10, 10)}, false},
		{3, []api.Place{at(0, 0, 10, 10), at(0, 12, 10, 10)}, true},
		{3, []api.Place{at(0, 0, 10, 10), at(12, 12, 10, 10)}, true},
		{3, []api.Place{at(0, 0, 10, 10), at(12, 13, 10, 10)}, false},
		{3, []api.Place{at(0, 0, 5, 5), at(20, 0, 5, 5), at(40, 0, 5, 5), at(42, 7, 5, 5)}, true},
		{3, []api.Place{at(0, 0, 5, 5), at(20, 0, 5, 5), at(40, 0, 5, 5), at(42, 8, 5, 5)}, false},
		{3, []api.Place{at(0, 0, 5, 5), at(20, 0, 5, 5), at(40, 0, 5, 5), at(2, 2, 5, 5)}, true},
		{0, []api.Place{at(50, 0, 5, 5), {X: 1, Y: 1, W: 1, H: 1}, {Piece: 255, X: 5, Y: 5, W: 1, H: 1}}, false},
	} {
		for range 2 {
			if is, e := cut.Clash(c.places, 100, 80, c.kerf); is != c.want || e != api.OK {
				t.Errorf("Clash(%v) with kerf %d: %v, error %d", c.places, c.kerf, is, e)
			}
			slices.Reverse(c.places)
		}
	}
	if is, e := cut.Clash([]api.Place{at(0, 0, 1000, 1000)}, 1000, 1000, 20); is || e != api.OK {
		t.Errorf("Clash of the greatest place: %v, error %d", is, e)
	}
}

// P4.9: ErrArg.
func TestClashErrors(t *testing.T) {
	good := api.Place{Piece: 'a', X: 5, Y: 5, W: 5, H: 5}
	for _, n := range []int{-1, 0, 1001, math.MinInt, math.MaxInt} {
		if is, e := cut.Clash(nil, n, 80, 0); is || e != api.ErrArg {
			t.Errorf("Clash on a plate %d wide: %v, error %d", n, is, e)
		}
		if is, e := cut.Clash(nil, 100, n, 0); is || e != api.ErrArg {
			t.Errorf("Clash on a plate %d high: %v, error %d", n, is, e)
		}
		bad := []api.Place{good, good}
		bad[0].W, bad[1].H = n, n
		if n != 0 {
			bad = append(bad, good, good)
			bad[2].X, bad[3].Y = n, n
		}
		for _, p := range bad {
			if is, e := cut.Clash([]api.Place{good, good, p}, 100, 80, 0); is || e != api.ErrArg {
				t.Errorf("Clash of %v: %v, error %d", p, is, e)
			}
		}
	}
	for _, kerf := range []int{-1, 21, math.MinInt, math.MaxInt} {
		if is, e := cut.Clash([]api.Place{good}, 100, 80, kerf); is || e != api.ErrArg {
			t.Errorf("Clash with kerf %d: %v, error %d", kerf, is, e)
		}
	}
	var many []api.Place
	for x := range 100 {
		for y := range 10 {
			many = append(many, api.Place{X: 2 * x, Y: 2 * y, W: 1, H: 1})
		}
	}
	if is, e := cut.Clash(many, 1000, 1000, 1); is || e != api.OK {
		t.Errorf("Clash of 1000 places: %v, error %d", is, e)
	}
	if is, e := cut.Clash(append(many, api.Place{X: 999, Y: 999, W: 1, H: 1}), 1000, 1000, 1); is || e != api.ErrArg {
		t.Errorf("Clash of 1001 places: %v, error %d", is, e)
	}
	if is, e := cut.Clash(many[:1000], 1000, 1000, 2); !is || e != api.OK {
		t.Errorf("Clash of 1000 places that are too near: %v, error %d", is, e)
	}
}

// P4.9: Clash is as the second way says.
func TestClashOfSomePlaces(t *testing.T) {
	random := rand.New(rand.NewPCG(4, 9))
	clashes := 0
	const rounds = 8000
	for range rounds {
		w, h, kerf := 5+random.IntN(20), 5+random.IntN(20), random.IntN(3)
		var places []api.Place
		for range 1 + random.IntN(4) {
			places = append(places, api.Place{X: random.IntN(w), Y: random.IntN(h), W: 1 + random.IntN(5), H: 1 + random.IntN(5)})
		}
		before := slices.Clone(places)
		is, e := cut.Clash(places, w, h, kerf)
		if want := referenceClash(places, w, h, kerf); is != want || e != api.OK {
			t.Fatalf("Clash(%v, %d, %d, %d): %v, error %d", places, w, h, kerf, is, e)
		}
		if !slices.Equal(places, before) {
			t.Fatalf("Clash changed %v to %v", before, places)
		}
		if is {
			clashes++
		}
	}
	if clashes < rounds/10 || clashes > rounds*9/10 {
		t.Errorf("%d of %d lists clash", clashes, rounds)
	}
}
