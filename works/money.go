package works

import (
	"slices"

	"blazon/api"
	"blazon/face"
)

// The limits of prices, quantities and invoices. Within them no product leaves 64 bits: the greatest is about 4 * 10^17.
const (
	maxEach     = 1000000
	maxSteps    = 10
	maxQuantity = 10000
	whole       = 1000 // thousandths
	maxInvoice  = 100
	maxPrice    = 1000000000000
)

// ValidPrices reports whether a price list is valid.
func ValidPrices(p api.Prices) bool {
	if !between(p.PerDot, 0, maxEach) || !between(p.PerScreen, 0, maxEach) || len(p.Steps) > maxSteps {
		return false
	}
	before := api.Off{Count: 0, Mille: -1}
	for _, s := range p.Steps {
		if !between(s.Count, before.Count+1, maxQuantity) || !between(s.Mille, before.Mille+1, whole) {
			return false
		}
		before = s
	}
	return true
}

// Quote returns the price of so many faces of a type.
func Quote(p api.Prices, t api.Type, count int) (int, api.Errno) {
	if !ValidPrices(p) {
		return 0, api.ErrPrices
	}
	f, ok := faceOf(t)
	if !ok {
		return 0, api.ErrType
	}
	if !quantityValid(count) {
		return 0, api.ErrArg
	}
	return count * priceOfOne(p, f) * (whole - takenOff(p, count)) / whole, api.OK
}

// priceOfOne returns the price of one valid face.
func priceOfOne(p api.Prices, f api.Face) int {
	areas, _ := face.Areas(f)
	dots := 0
	for _, area := range areas[api.White:] {
		dots += area
	}
	screens, _ := face.Screens(f)
	return p.PerDot*dots + p.PerScreen*len(screens)
}

// takenOff returns how many thousandths are taken off for a quantity.
func takenOff(p api.Prices, count int) int {
	mille := 0
	for _, s := range p.Steps {
		if s.Count <= count {
			mille = s.Mille
		}
	}
	return mille
}

// Invoice returns the Quotes of all lines, and their sum.
func Invoice(p api.Prices, types []api.Type, counts []int) ([]int, int, api.Errno) {
	if !ValidPrices(p) {
		return nil, 0, api.ErrPrices
	}
	if slices.ContainsFunc(types, func(t api.Type) bool { return !ValidType(t) }) {
		return nil, 0, api.ErrType
	}
	if len(types) != len(counts) || len(types) > maxInvoice {
		return nil, 0, api.ErrArg
	}
	var quotes []int
	sum := 0
	for k, t := range types {
		quote, err := Quote(p, t, counts[k])
		if err != api.OK {
			return nil, 0, err
		}
		quotes = append(quotes, quote)
		sum += quote
	}
	return quotes, sum, api.OK
}

func quantityValid(count int) bool {
	return between(count, 1, maxQuantity)
}

// Warranty returns what the maker of the sheet pays for a face that fades at an age: less and less from the age `full` on, and
// nothing from `last` on.
func Warranty(price, age, full, last int) (int, api.Errno) {
	if !between(price, 0, maxPrice) || !dayValid(age) || !dayValid(last) || !between(full, 0, last-1) {
		return 0, api.ErrArg
	}
	if age < full {
		return price, api.OK
	}
	if age >= last {
		return 0, api.OK
	}
	return price * (last - age) / (last - full), api.OK
}
