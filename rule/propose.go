package rule

import (
	"slices"

	"blazon/api"
)

// Propose returns signs that make hold what must hold at an hour.
func Propose(l api.Line, edicts []api.Edict, hour int) ([]api.Sign, api.Errno) {
	if err := listsError(l, nil, edicts); err != api.OK {
		return nil, err
	}
	if !isHour(hour) {
		return nil, api.ErrArg
	}
	var signs []api.Sign
	for _, w := range ways {
		signs = append(signs, needed(l, edicts, hour, w)...)
	}
	if len(signs) > api.MaxSigns {
		return nil, api.ErrArg
	}
	for i := range signs {
		signs[i].Number = i + 1
	}
	return signs, api.OK
}

// needed returns the signs that a way needs, still without their numbers.
func needed(l api.Line, edicts []api.Edict, hour int, w way) []api.Sign {
	var signs []api.Sign
	must := wanted(l, edicts, hour, w)
	now := 0
	for _, k := range looks(l, w.dir, must) {
		chain := distance(l, w.dir, k)
		if slices.Contains(l.Junctions, chain) {
			now = 0
		}
		if value := must.at(metreAt(l, w.dir, k)); value != now {
			signs = append(signs, changing(w, value, chain, hour))
			now = value
		}
	}
	return signs
}

// looks returns, in ascending order, the distances at which a car looks whether it needs a sign. They are those of junctions
// and those where what must hold may change; at all others it holds already.
func looks(l api.Line, dir int, must course) []int {
	var all []int
	for _, c := range slices.Concat(must.cuts, l.Junctions) {
		if k := distance(l, dir, c); k < l.Length {
			all = append(all, k)
		}
	}
	slices.Sort(all)
	return slices.Compact(all)
}

// changing returns a sign that makes a value hold from a chainage on for an hour.
func changing(w way, value, chain, hour int) api.Sign {
	s := api.Sign{Chain: chain, Dir: w.dir, Rank: w.topic, Up: hour, Down: hour + 1}
	switch {
	case w.topic == api.TopicLimit && value == 0:
		s.Kind = api.LimitEnd
	case w.topic == api.TopicLimit:
		s.Kind, s.Value = api.Limit, value
	case value == 0:
		s.Kind = api.NoPassEnd
	default:
		s.Kind = api.NoPass
	}
	return s
}
