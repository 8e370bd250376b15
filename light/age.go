package light

import "blazon/api"

// year is how many days a year has.
const year = 365

// The limits of ageing that api does not name.
const (
	maxKeep     = 1000
	maxYears    = 300
	maxMeasures = 50
)

// Aged returns what remains of the coefficient r after so many years, each of which keeps so many thousandths.
func Aged(r, keep, years int) (int, api.Errno) {
	if !coefValid(r) || !ageingValid(keep, years) {
		return 0, api.ErrArg
	}
	return afterYears(r, keep, years), api.OK
}

// afterYears is Aged for arguments that are known to be valid.
func afterYears(r, keep, years int) int {
	for range years {
		r = afterYear(r, keep)
	}
	return r
}

func afterYear(r, keep int) int {
	return r * keep / maxKeep
}

// Value returns the coefficient that a face with the measures m has on a day, if it looks to a side.
func Value(a api.Ageing, side int, m []api.Measure, day int) (int, api.Errno) {
	if !historyValid(a, side, m) || !between(day, m[0].Day, api.MaxDay) {
		return 0, api.ErrArg
	}
	last := m[0]
	for _, later := range m[1:] {
		if later.Day <= day {
			last = later
		}
	}
	return afterYears(last.R, a.Keep[side], (day-last.Day)/year), api.OK
}

// Due returns the first day, from the last measure on, on which Value is less than least, and whether there is one. It
// looks only at the days on which a year is over: on the others Value stays as it is.
func Due(a api.Ageing, side int, m []api.Measure, least int) (int, bool, api.Errno) {
	if !historyValid(a, side, m) || !coefValid(least) {
		return 0, false, api.ErrArg
	}
	last := m[len(m)-1]
	r := last.R
	for years := range (api.MaxDay-last.Day)/year + 1 {
		if r < least {
			return last.Day + years*year, true, api.OK
		}
		r = afterYear(r, a.Keep[side])
	}
	return 0, false, api.OK
}

// historyValid reports whether a face can have aged in this way, to this side and with these measures.
func historyValid(a api.Ageing, side int, m []api.Measure) bool {
	for _, keep := range a.Keep {
		if !between(keep, 0, maxKeep) {
			return false
		}
	}
	return between(side, 0, len(a.Keep)-1) && measuresValid(m)
}

// measuresValid reports whether there is a measure, and not too many, each later than the one in front of it.
func measuresValid(m []api.Measure) bool {
	if !between(len(m), 1, maxMeasures) {
		return false
	}
	before := -1
	for _, one := range m {
		if one.Day <= before || one.Day > api.MaxDay || !coefValid(one.R) {
			return false
		}
		before = one.Day
	}
	return true
}

func ageingValid(keep, years int) bool {
	return between(keep, 0, maxKeep) && between(years, 0, maxYears)
}

func coefValid(r int) bool {
	return between(r, 0, api.MaxCoef)
}
