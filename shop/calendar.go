package shop

import (
	"slices"
	"sort"

	"blazon/api"
)

const (
	dayLength = 1440    // minutes
	maxWork   = 1000000 // minutes that After finds
)

// Next returns the least start, not before t, at which a step of so many minutes is within a shift.
func Next(s api.Shop, t, minutes int) (int, api.Errno) {
	if !Valid(s) {
		return 0, api.ErrShop
	}
	if !between(t, 0, api.MaxTime) || !between(minutes, 1, s.Close-s.Open) {
		return 0, api.ErrArg
	}
	return next(s, t, minutes), api.OK
}

// next is Next for arguments that are known to be valid. A day of which the shift is long enough comes soon, for holidays
// are few.
func next(s api.Shop, t, minutes int) int {
	for day := t / dayLength; ; day++ {
		start := max(t, day*dayLength+s.Open)
		if within(s, start, minutes) {
			return start
		}
	}
}

// within reports whether a step is within a shift. It may end with the day: Close may be the minute behind the last one.
func within(s api.Shop, start, minutes int) bool {
	_, holiday := slices.BinarySearch(s.Holidays, start/dayLength)
	minute := start % dayLength
	return !holiday && minute >= s.Open && minute+minutes <= s.Close
}

// Worked returns the number of open minutes from from to less than to.
func Worked(s api.Shop, from, to int) (int, api.Errno) {
	if !Valid(s) {
		return 0, api.ErrShop
	}
	if !between(from, 0, to) || to > api.MaxTime {
		return 0, api.ErrArg
	}
	return openBefore(s, to) - openBefore(s, from), api.OK
}

// After returns the least number that is not less than t and has so many open minutes between t and itself.
func After(s api.Shop, t, minutes int) (int, api.Errno) {
	if !Valid(s) {
		return 0, api.ErrShop
	}
	if !between(t, 0, api.MaxTime) || !between(minutes, 0, maxWork) {
		return 0, api.ErrArg
	}
	return after(s, t, minutes), api.OK
}

// after is After for arguments that are known to be valid.
func after(s api.Shop, t, minutes int) int {
	reached := openBefore(s, t) + minutes
	// From any t on, the length of a day has all the minutes of a shift, at least one, but for those that holidays take.
	most := (minutes + len(s.Holidays)) * dayLength
	return t + sort.Search(most, func(n int) bool { return openBefore(s, t+n) >= reached })
}

// openBefore returns the number of open minutes from 0 to less than t.
func openBefore(s api.Shop, t int) int {
	day, shift := t/dayLength, s.Close-s.Open
	holidays, holiday := slices.BinarySearch(s.Holidays, day)
	open := (day - holidays) * shift
	if !holiday {
		open += min(max(t%dayLength-s.Open, 0), shift)
	}
	return open
}
