package rule

import (
	"slices"

	"blazon/api"
)

// inspector judges the signs of a row of a line.
type inspector struct {
	length int
	row    []posted
}

// Faults returns the faults of the signs that speak.
func Faults(l api.Line, signs []api.Sign, hour int) ([]api.Fault, api.Errno) {
	if err := listsError(l, signs, nil); err != api.OK {
		return nil, err
	}
	if !isHour(hour) {
		return nil, api.ErrArg
	}
	var faults []api.Fault
	for _, dir := range [2]int{1, -1} {
		in := inspector{length: l.Length, row: rowOf(l, signs, hour, dir)}
		faults = append(faults, faulty(in.row, in.code)...)
	}
	// No sign has more than one fault.
	slices.SortFunc(faults, by(func(f api.Fault) int { return f.Number }))
	return faults, api.OK
}

// faulty returns the faults of signs; code gives that of each, or 0.
func faulty(row []posted, code func(p posted) int) []api.Fault {
	var faults []api.Fault
	for _, p := range row {
		if c := code(p); c != 0 {
			faults = append(faults, api.Fault{Number: p.Number, Code: c})
		}
	}
	return faults
}

// code returns the code of the fault of a sign, 0 if it has none.
func (in inspector) code(p posted) int {
	switch p.Kind {
	case api.Plate:
		if !p.belongs || p.Value > in.length-p.distance {
			return api.FaultStray
		}
	case api.Repeat:
		if p.distance == in.length || holdsAt(in.row, api.TopicLimit, p.distance) != p.Value {
			return api.FaultRepeat
		}
	case api.LimitEnd, api.NoPassEnd, api.EndAll:
		if !in.endsAny(p, api.TopicLimit, api.TopicPass) {
			return api.FaultIdle
		}
	case api.Limit, api.NoPass:
		if p.distance == in.length {
			return api.FaultBack
		}
	}
	return 0
}

// endsAny reports whether an end is one of a topic of which something holds on the metre in front of it. In front of the
// distance 0 nothing holds, for no sign is there.
func (in inspector) endsAny(p posted, topics ...int) bool {
	return slices.ContainsFunc(topics, func(topic int) bool {
		return isEnd(p.Kind, topic) && holdsAt(in.row, topic, p.distance-1) != 0
	})
}
