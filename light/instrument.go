package light

import "blazon/api"

// The limits of instruments that api does not name.
const (
	maxReadings = 100
	maxMinute   = 1000000
)

// Corrected returns the values of readings as the instrument would have read them without its drift, which a reference
// plate shows in front of the readings and behind them.
func Corrected(readings []api.Reading, first, last api.Reading, reference int) ([]int, api.Errno) {
	ends := [2]api.Reading{first, last}
	if !endsValid(ends, reference) || !readingsValid(readings, ends) {
		return nil, api.ErrArg
	}
	for _, end := range ends {
		if drifted(end.Value, reference) {
			return nil, api.ErrDrift
		}
	}
	var values []int
	for _, r := range readings {
		values = append(values, corrected(r, ends, reference))
	}
	return values, api.OK
}

// corrected returns the value of a reading between the ends of its row.
func corrected(r api.Reading, ends [2]api.Reading, reference int) int {
	first, last := ends[0], ends[1]
	plate := first.Value*(last.Minute-r.Minute) + last.Value*(r.Minute-first.Minute)
	return r.Value * reference * (last.Minute - first.Minute) / plate
}

func endsValid(ends [2]api.Reading, reference int) bool {
	before := -1
	for _, end := range ends {
		if !between(end.Value, 1, api.MaxCoef) || !between(end.Minute, before+1, maxMinute) {
			return false
		}
		before = end.Minute
	}
	return between(reference, 1, api.MaxCoef)
}

// readingsValid reports whether there are not too many readings, all between valid ends.
func readingsValid(readings []api.Reading, ends [2]api.Reading) bool {
	for _, r := range readings {
		if !coefValid(r.Value) || !between(r.Minute, ends[0].Minute, ends[1].Minute) {
			return false
		}
	}
	return len(readings) <= maxReadings
}

// drifted reports whether a reading of the plate is more than a twentieth of the reference away from it.
func drifted(value, reference int) bool {
	return 20*max(value-reference, reference-value) > reference
}

// Accepted reports whether values are great enough together, and none of them far too small.
func Accepted(values []int, least int) (bool, api.Errno) {
	if !between(len(values), 1, maxReadings) || !coefValid(least) {
		return false, api.ErrArg
	}
	sum, lowest := 0, api.MaxCoef
	for _, value := range values {
		if !coefValid(value) {
			return false, api.ErrArg
		}
		sum += value
		lowest = min(lowest, value)
	}
	return sum/len(values) >= least && 10*lowest >= 8*least, api.OK
}
