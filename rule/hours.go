package rule

import (
	"maps"
	"slices"

	"blazon/api"
)

// Moments returns the hours at which a sign, a cover or an edict begins or ends.
func Moments(l api.Line, signs []api.Sign, edicts []api.Edict) ([]int, api.Errno) {
	if err := listsError(l, signs, edicts); err != api.OK {
		return nil, err
	}
	return moments(signs, edicts), api.OK
}

// moments is Moments for valid arguments.
func moments(signs []api.Sign, edicts []api.Edict) []int {
	hours := map[int]bool{}
	for _, s := range signs {
		hours[s.Up], hours[s.Down] = true, true
		for _, c := range s.Covers {
			hours[c.From], hours[c.To] = true, true
		}
	}
	for _, e := range edicts {
		hours[e.Start], hours[e.End] = true, true
	}
	// What lasts to the end of all hours ends at none of them.
	delete(hours, api.MaxHour+1)
	return slices.Sorted(maps.Keys(hours))
}

// History returns what a metre was told at all hours.
func History(l api.Line, signs []api.Sign, dir, topic, metre int) ([]api.Told, api.Errno) {
	if err := listsError(l, signs, nil); err != api.OK {
		return nil, err
	}
	if !isDir(dir) || !isTopic(topic) || !isMetre(l, metre) {
		return nil, api.ErrArg
	}
	k := beginOf(l, dir, metre)
	toldAt := func(hour int) int { return holdsAt(rowOf(l, signs, hour, dir), topic, k) }
	var all []api.Told
	for _, p := range parts(append(moments(signs, nil), 0, api.MaxHour+1), toldAt) {
		all = append(all, api.Told{From: p.From, To: p.To, Value: p.value})
	}
	return all, api.OK
}
