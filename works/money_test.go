package works_test

import (
	"math/big"
	"math/rand/v2"
	"slices"
	"testing"

	"blazon/api"
	"blazon/works"
)

// square is a type of 100 dots and two screens.
func square() api.Type {
	return typeOf("panel 10 10: field white; box black 2 2 at 1 1")
}

func someOff() api.Prices {
	return api.Prices{PerDot: 3, PerScreen: 50, Steps: []api.Off{{Count: 10, Mille: 100}, {Count: 100, Mille: 333}}}
}

// P10.2: what makes a price list valid, at the limits and just beyond them.
func TestValidPrices(t *testing.T) {
	steps := func(n int) []api.Off {
		var l []api.Off
		for k := range n {
			l = append(l, api.Off{Count: k + 1, Mille: k})
		}
		return l
	}
	for _, c := range []struct {
		p    api.Prices
		want bool
	}{
		{api.Prices{}, true},
		{api.Prices{PerDot: 1000000, PerScreen: 1000000, Steps: []api.Off{{Count: 1}, {Count: 10000, Mille: 1000}}}, true},
		{api.Prices{PerDot: -1}, false},
		{api.Prices{PerDot: 1000001}, false},
		{api.Prices{PerScreen: -1}, false},
		{api.Prices{PerScreen: 1000001}, false},
		{api.Prices{Steps: steps(10)}, true},
		{api.Prices{Steps: steps(11)}, false},
		{api.Prices{Steps: []api.Off{{Count: 0, Mille: 5}}}, false},
		{api.Prices{Steps: []api.Off{{Count: 10001, Mille: 5}}}, false},
		{api.Prices{Steps: []api.Off{{Count: 1, Mille: -1}}}, false},
		{api.Prices{Steps: []api.Off{{Count: 1, Mille: 1001}}}, false},
		{api.Prices{Steps: []api.Off{{Count: 5, Mille: 1}, {Count: 5, Mille: 2}}}, false},
		{api.Prices{Steps: []api.Off{{Count: 5, Mille: 1}, {Count: 6, Mille: 1}}}, false},
		{api.Prices{Steps: []api.Off{{Count: 5, Mille: 2}, {Count: 6, Mille: 1}}}, false},
		{api.Prices{Steps: []api.Off{{Count: 6, Mille: 1}, {Count: 5, Mille: 2}}}, false},
	} {
		if got := works.ValidPrices(c.p); got != c.want {
			t.Errorf("ValidPrices of %+v: %v", c.p, got)
		}
	}
}

// P10.2: prices, with the steps taken off, as the chapter's second example has them, and rounded down.
func TestQuote(t *testing.T) {
	for _, c := range []struct {
		p     api.Prices
		t     api.Type
		count int
		want  int
	}{
		{someOff(), square(), 10, 3600},
		{someOff(), square(), 1, 400},
		{someOff(), square(), 9, 3600},
		{someOff(), square(), 99, 35640},
		{someOff(), square(), 100, 26680},
		{someOff(), square(), 10000, 2668000},
		{api.Prices{PerDot: 1, Steps: []api.Off{{Count: 1, Mille: 995}}}, square(), 1, 0},
		{api.Prices{PerDot: 1, Steps: []api.Off{{Count: 1, Mille: 995}}}, square(), 3, 1},
		{api.Prices{PerDot: 1, Steps: []api.Off{{Count: 1, Mille: 1000}}}, square(), 10000, 0},
		{api.Prices{PerScreen: 7}, typeOf("panel 10 10: box white 1 1 at 0 0"), 2, 14},
		{api.Prices{PerDot: 7}, typeOf("panel 10 10: box white 1 1 at 0 0"), 1, 700},
		{api.Prices{PerDot: 1}, typeOf("diamond 4: field white"), 1, 12},
		{api.Prices{PerDot: 1000000, PerScreen: 1000000}, typeOf("panel 200 200: field white"), 10000, 400010000000000},
	} {
		if got, err := works.Quote(c.p, c.t, c.count); got != c.want || err != api.OK {
			t.Errorf("Quote of %d %+v with %+v: %d, error %d, not %d", c.count, c.t, c.p, got, err, c.want)
		}
	}
}

// P10.2: the errors of Quote and Invoice, and their order.
func TestQuoteErrors(t *testing.T) {
	bad := api.Prices{PerDot: -1}
	for _, c := range []struct {
		p     api.Prices
		t     api.Type
		count int
		want  api.Errno
	}{
		{bad, api.Type{}, 0, api.ErrPrices},
		{someOff(), api.Type{}, 0, api.ErrType},
		{someOff(), square(), 0, api.ErrArg},
		{someOff(), square(), -5, api.ErrArg},
		{someOff(), square(), 10001, api.ErrArg},
	} {
		if got, err := works.Quote(c.p, c.t, c.count); got != 0 || err != c.want {
			t.Errorf("Quote of %d %+v with %+v: %d, error %d, not %d", c.count, c.t, c.p, got, err, c.want)
		}
		l, sum, err := works.Invoice(c.p, []api.Type{square(), c.t}, []int{1, c.count})
		if len(l) > 0 || sum != 0 || err != c.want {
			t.Errorf("Invoice of %d %+v with %+v: %v, %d, error %d, not %d", c.count, c.t, c.p, l, sum, err, c.want)
		}
	}
	many := func(n int) ([]api.Type, []int) {
		return slices.Repeat([]api.Type{square()}, n), slices.Repeat([]int{1}, n)
	}
	types, counts := many(101)
	for _, c := range []struct {
		p      api.Prices
		types  []api.Type
		counts []int
		want   api.Errno
	}{
		{someOff(), types, counts, api.ErrArg},
		{someOff(), types[:100], counts, api.ErrArg},
		{someOff(), types[:2], counts[:1], api.ErrArg},
		{someOff(), types[:1], nil, api.ErrArg},
		{someOff(), nil, counts[:1], api.ErrArg},
		{bad, types, counts, api.ErrPrices},
		{someOff(), append(slices.Clone(types), api.Type{}), counts, api.ErrType},
		{someOff(), []api.Type{square(), {}}, []int{0, 1}, api.ErrType},
	} {
		l, sum, err := works.Invoice(c.p, c.types, c.counts)
		if len(l) > 0 || sum != 0 || err != c.want {
			t.Errorf("Invoice of %d types and %d counts: %v, %d, error %d, not %d", len(c.types), len(c.counts), l, sum, err, c.want)
		}
	}
}

// P10.2 and P10.13: an invoice has the quotes of its lines, and their sum.
func TestInvoice(t *testing.T) {
	if l, sum, err := works.Invoice(someOff(), nil, nil); len(l) > 0 || sum != 0 || err != api.OK {
		t.Errorf("Invoice of nothing: %v, %d, error %d", l, sum, err)
	}
	r := rand.New(rand.NewPCG(1, 2))
	texts := faceTexts()
	for _, n := range []int{1, 2, 7, 100} {
		var types []api.Type
		var counts, want []int
		total := 0
		for range n {
			ty := typeOf(texts[r.IntN(len(texts))])
			if !works.ValidType(ty) {
				ty = square()
			}
			count := 1 + r.IntN(10000)
			quote, err := works.Quote(someOff(), ty, count)
			must(t, "Quote", err)
			types, counts, want, total = append(types, ty), append(counts, count), append(want, quote), total+quote
		}
		l, sum, err := works.Invoice(someOff(), types, counts)
		if !slices.Equal(l, want) || sum != total || err != api.OK {
			t.Errorf("Invoice: %v, %d, error %d, not %v, %d", l, sum, err, want, total)
		}
	}
}

// P10.13: as long as the step stays the same, a greater quantity never costs less; and all quotes are as a sum of the dots has them.
func TestQuoteGrows(t *testing.T) {
	p := api.Prices{PerDot: 1, PerScreen: 2, Steps: []api.Off{{Count: 3, Mille: 0}, {Count: 50, Mille: 7}, {Count: 51, Mille: 999}}}
	last, lastMille := 0, -1
	for count := 1; count <= 300; count++ {
		mille := 0
		for _, s := range p.Steps {
			if s.Count <= count {
				mille = max(mille, s.Mille)
			}
		}
		got, err := works.Quote(p, square(), count)
		must(t, "Quote", err)
		if want := count * 104 * (1000 - mille) / 1000; got != want {
			t.Errorf("Quote of %d: %d, not %d", count, got, want)
		}
		if mille == lastMille && got < last {
			t.Errorf("%d cost %d, one less %d", count, got, last)
		}
		last, lastMille = got, mille
	}
}

// P10.3: what the maker of the sheet pays, as the chapter's third example has it, at the limits and just beyond them.
func TestWarranty(t *testing.T) {
	for _, c := range []struct {
		price, age, full, last, want int
		err                          api.Errno
	}{
		{1000, 3000, 2555, 3650, 593, api.OK},
		{1000, 2554, 2555, 3650, 1000, api.OK},
		{1000, 2555, 2555, 3650, 1000, api.OK},
		{1000, 2556, 2555, 3650, 999, api.OK},
		{1000, 3649, 2555, 3650, 0, api.OK},
		{1000000, 3649, 2555, 3650, 913, api.OK},
		{1000, 3650, 2555, 3650, 0, api.OK},
		{1000, 100000, 2555, 3650, 0, api.OK},
		{1000, 0, 0, 1, 1000, api.OK},
		{1000, 1, 0, 1, 0, api.OK},
		{0, 0, 0, 1, 0, api.OK},
		{1000000000000, 1, 0, 100000, 999990000000, api.OK},
		{1000000000001, 1, 0, 100000, 0, api.ErrArg},
		{-1, 1, 0, 100000, 0, api.ErrArg},
		{1, -1, 0, 100000, 0, api.ErrArg},
		{1, 100001, 0, 100000, 0, api.ErrArg},
		{1, 1, -1, 100000, 0, api.ErrArg},
		{1, 1, 5, 5, 0, api.ErrArg},
		{1, 1, 6, 5, 0, api.ErrArg},
		{1, 1, 0, 0, 0, api.ErrArg},
		{1, 1, 0, 100001, 0, api.ErrArg},
		{1, 1, 5, -1 << 63, 0, api.ErrArg},
		{1, 1, 1<<63 - 1, 5, 0, api.ErrArg},
	} {
		if got, err := works.Warranty(c.price, c.age, c.full, c.last); got != c.want || err != c.err {
			t.Errorf("Warranty of %d at %d with %d and %d: %d, error %d, not %d, %d", c.price, c.age, c.full, c.last, got, err, c.want, c.err)
		}
	}
}

// P10.3 and P10.13: Warranty as big numbers have it; it never rises with age.
func TestWarrantyFalls(t *testing.T) {
	r := rand.New(rand.NewPCG(3, 4))
	for range 200 {
		price, full := int(r.Int64N(1000000000001)), r.IntN(100000)
		last := full + 1 + r.IntN(100000-full)
		before := price
		for age := max(0, full-3); age <= min(100000, full+1000); age++ {
			got, err := works.Warranty(price, age, full, last)
			must(t, "Warranty", err)
			want := big.NewInt(int64(price))
			if age >= full {
				want.Mul(want, big.NewInt(int64(max(0, last-age))))
				want.Div(want, big.NewInt(int64(last-full)))
			}
			if want.Cmp(big.NewInt(int64(got))) != 0 || got > before {
				t.Fatalf("Warranty of %d at %d with %d and %d: %d, not %v, behind %d", price, age, full, last, got, want, before)
			}
			before = got
		}
	}
}
