package road_test

import (
	"maps"
	"math"
	"math/rand/v2"
	"slices"
	"testing"

	"blazon/api"
	"blazon/road"
)

// spans returns stretches from pairs of ends.
func spans(ends ...int) []api.Span {
	var l []api.Span
	for i := 0; i < len(ends); i += 2 {
		l = append(l, span(ends[i], ends[i+1]))
	}
	return l
}

// P6.5: Union and Total.
func TestUnion(t *testing.T) {
	for _, c := range []struct {
		l, want []api.Span
		total   int
	}{
		{nil, nil, 0},
		{[]api.Span{}, nil, 0},
		{spans(5, 6), spans(5, 6), 1},
		{spans(0, maxChain), spans(0, maxChain), maxChain},
		{spans(0, 1, maxChain-1, maxChain), spans(0, 1, maxChain-1, maxChain), 2},
		{spans(10, 20, 20, 30), spans(10, 30), 20},
		{spans(20, 30, 10, 20), spans(10, 30), 20},
		{spans(10, 20, 21, 30), spans(10, 20, 21, 30), 19},
		{spans(10, 20, 15, 30), spans(10, 30), 20},
		{spans(10, 40, 15, 30, 35, 36), spans(10, 40), 30},
		{spans(10, 20, 10, 30, 10, 20), spans(10, 30), 20},
		{spans(50, 60, 1, 2, 30, 40, 2, 3), spans(1, 3, 30, 40, 50, 60), 22},
		{slices.Repeat(spans(7, 9), 1000), spans(7, 9), 2},
		{slices.Repeat(spans(0, maxChain), 1000), spans(0, maxChain), maxChain},
	} {
		if got, err := road.Union(c.l); !slices.Equal(got, c.want) || err != api.OK {
			t.Errorf("Union of %v: %v, error %d", c.l, got, err)
		}
		if got, err := road.Total(c.l); got != c.total || err != api.OK {
			t.Errorf("Total of %v: %d, error %d", c.l, got, err)
		}
	}
}

// P6.5: Minus.
func TestMinus(t *testing.T) {
	for _, c := range []struct {
		a, b, want []api.Span
	}{
		{nil, nil, nil},
		{nil, spans(1, 2), nil},
		{[]api.Span{}, []api.Span{}, nil},
		{spans(20, 30, 10, 20, 40, 50, 5, 15), nil, spans(5, 30, 40, 50)},
		{spans(10, 20), spans(10, 20), nil},
		{spans(10, 20), spans(5, 25), nil},
		{spans(10, 20), spans(0, 10, 20, 30), spans(10, 20)},
		{spans(10, 20), spans(0, 11, 19, 30), spans(11, 19)},
		{spans(10, 20), spans(15, 16), spans(10, 15, 16, 20)},
		{spans(10, 20), spans(15, 16, 12, 13, 17, 18), spans(10, 12, 13, 15, 16, 17, 18, 20)},
		{spans(10, 20, 30, 40, 50, 60), spans(15, 55), spans(10, 15, 55, 60)},
		{spans(10, 20, 15, 30), spans(12, 14), spans(10, 12, 14, 30)},
		{spans(0, maxChain), spans(1, maxChain-1), spans(0, 1, maxChain-1, maxChain)},
		{spans(0, maxChain), spans(0, maxChain), nil},
		{spans(0, maxChain), nil, spans(0, maxChain)},
		{spans(maxChain-1, maxChain), spans(0, maxChain-1), spans(maxChain-1, maxChain)},
		{spans(0, 1), spans(1, maxChain), spans(0, 1)},
		{nil, spans(0, maxChain), nil},
	} {
		if got, err := road.Minus(c.a, c.b); !slices.Equal(got, c.want) || err != api.OK {
			t.Errorf("Minus of %v and %v: %v, error %d", c.a, c.b, got, err)
		}
	}
}

// P6.5: lists of 1000 stretches, of which as much is left as can be.
func TestLongLists(t *testing.T) {
	var a, b, want []api.Span
	for k := range 1000 {
		a = append(a, span(10*k, 10*k+9))
		b = append(b, span(10*k+3, 10*k+5))
		want = append(want, span(10*k, 10*k+3), span(10*k+5, 10*k+9))
	}
	slices.Reverse(b)
	if got, err := road.Minus(a, b); !slices.Equal(got, want) || err != api.OK {
		t.Errorf("Minus of long lists: %d stretches, error %d", len(got), err)
	}
	if got, err := road.Union(a); !slices.Equal(got, a) || err != api.OK {
		t.Errorf("Union of a long list: %d stretches, error %d", len(got), err)
	}
	if got, err := road.Total(b); got != 2000 || err != api.OK {
		t.Errorf("Total of a long list: %d, error %d", got, err)
	}
}

// P6.5: lists that are too long, or have something that is no stretch, at any place.
func TestListsErrArg(t *testing.T) {
	lists := [][]api.Span{slices.Repeat(spans(1, 2), 1001)}
	for _, s := range []api.Span{
		{}, span(5, 5), span(6, 5), span(-1, 5), span(0, maxChain+1), span(maxChain, maxChain), span(maxChain, maxChain+1), span(-2, -1),
		span(maxChain+1, maxChain+2), span(math.MinInt, math.MaxInt), span(math.MaxInt, math.MinInt), span(0, math.MaxInt), span(math.MinInt, 1),
	} {
		lists = append(lists, []api.Span{s}, []api.Span{span(1, 2), s}, []api.Span{s, span(1, 2)})
	}
	for _, l := range lists {
		if got, err := road.Union(l); len(got) != 0 || err != api.ErrArg {
			t.Errorf("Union of %v: %v, error %d", l, got, err)
		}
		if got, err := road.Total(l); got != 0 || err != api.ErrArg {
			t.Errorf("Total of %v: %d, error %d", l, got, err)
		}
		for _, other := range [][]api.Span{nil, spans(1, 2)} {
			if got, err := road.Minus(l, other); len(got) != 0 || err != api.ErrArg {
				t.Errorf("Minus of %v and %v: %v, error %d", l, other, got, err)
			}
			if got, err := road.Minus(other, l); len(got) != 0 || err != api.ErrArg {
				t.Errorf("Minus of %v and %v: %v, error %d", other, l, got, err)
			}
		}
	}
}

// P6.5, P6.12: Union, Minus and Total are those of sets of metres, and Total adds up.
func TestSets(t *testing.T) {
	r := rand.New(rand.NewPCG(6, 5))
	for range 4000 {
		a, b := someSpans(r, 8), someSpans(r, 8)
		both, setA, setB := slices.Concat(a, b), metresOf(a), metresOf(b)
		if got, err := road.Union(both); !slices.Equal(got, referenceSpans(metresOf(both))) || err != api.OK {
			t.Fatalf("Union of %v: %v, error %d", both, got, err)
		}
		less := maps.Clone(setA)
		maps.DeleteFunc(less, func(m int, _ bool) bool { return setB[m] })
		if got, err := road.Minus(a, b); !slices.Equal(got, referenceSpans(less)) || err != api.OK {
			t.Fatalf("Minus of %v and %v: %v, error %d", a, b, got, err)
		}
		totalA, err := road.Total(a)
		if totalA != len(setA) || err != api.OK {
			t.Fatalf("Total of %v: %d, error %d", a, totalA, err)
		}
		rest, _ := road.Minus(b, a)
		totalRest, _ := road.Total(rest)
		if got, err := road.Total(both); got != totalA+totalRest || err != api.OK {
			t.Fatalf("Total of %v and %v: %d, error %d", a, b, got, err)
		}
	}
}

// R4: lists are read up to their length alone, and not changed; the results are new memory.
func TestListsStay(t *testing.T) {
	a := append(spans(30, 40, 10, 20), span(-7, -7))[:2]
	b := append(spans(15, 16, 5, 8), span(-7, -7))[:2]
	union, e1 := road.Union(a)
	minus, e2 := road.Minus(a, b)
	alone, e3 := road.Minus(a, nil)
	total, e4 := road.Total(a)
	if e1 != api.OK || e2 != api.OK || e3 != api.OK || e4 != api.OK || total != 20 {
		t.Fatalf("errors %d, %d, %d, %d, total %d", e1, e2, e3, e4, total)
	}
	if !slices.Equal(a[:3], append(spans(30, 40, 10, 20), span(-7, -7))) || !slices.Equal(b[:3], append(spans(15, 16, 5, 8), span(-7, -7))) {
		t.Errorf("the arguments became %v, %v", a[:3], b[:3])
	}
	a[0], a[1] = span(1, 2), span(1, 2)
	if !slices.Equal(union, spans(10, 20, 30, 40)) || !slices.Equal(alone, union) || !slices.Equal(minus, spans(10, 15, 16, 20, 30, 40)) {
		t.Errorf("the results became %v, %v, %v", union, alone, minus)
	}
}
