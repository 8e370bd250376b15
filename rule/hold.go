package rule

import (
	"slices"

	"blazon/api"
)

// course is a value for each metre of a line, with all the chainages at which it may become another one, the ends of the line
// among them.
type course struct {
	at   func(metre int) int
	cuts []int
}

// part is a span with the value that it has throughout.
type part[V comparable] struct {
	api.Span
	value V
}

// parts returns as few spans as possible from the least to the greatest cut, with the value of each. Between two neighbouring
// cuts the value stays the same.
func parts[V comparable](cuts []int, value func(at int) V) []part[V] {
	ascending := slices.Compact(slices.Sorted(slices.Values(cuts)))
	var all []part[V]
	for i := 1; i < len(ascending); i++ {
		from, to := ascending[i-1], ascending[i]
		v := value(from)
		if last := len(all) - 1; last >= 0 && all[last].value == v {
			all[last].To = to
		} else {
			all = append(all, part[V]{api.Span{From: from, To: to}, v})
		}
	}
	return all
}

// Holds returns what holds on a metre.
func Holds(l api.Line, signs []api.Sign, hour, dir, topic, metre int) (int, api.Errno) {
	if err := listsError(l, signs, nil); err != api.OK {
		return 0, err
	}
	if !isHour(hour) || !isDir(dir) || !isTopic(topic) || !isMetre(l, metre) {
		return 0, api.ErrArg
	}
	return holdsAt(rowOf(l, signs, hour, dir), topic, beginOf(l, dir, metre)), api.OK
}

// Held returns what holds along the whole line.
func Held(l api.Line, signs []api.Sign, hour, dir, topic int) ([]api.Held, api.Errno) {
	if err := listsError(l, signs, nil); err != api.OK {
		return nil, err
	}
	if !isHour(hour) || !isDir(dir) || !isTopic(topic) {
		return nil, api.ErrArg
	}
	return told(l, signs, hour, way{topic, dir}).held(), api.OK
}

// Must returns what must hold on a metre.
func Must(l api.Line, edicts []api.Edict, hour, dir, topic, metre int) (int, api.Errno) {
	if err := listsError(l, nil, edicts); err != api.OK {
		return 0, err
	}
	if !isHour(hour) || !isDir(dir) || !isTopic(topic) || !isMetre(l, metre) {
		return 0, api.ErrArg
	}
	return mustAt(edicts, hour, way{topic, dir}, metre), api.OK
}

// Wanted returns what must hold along the whole line.
func Wanted(l api.Line, edicts []api.Edict, hour, dir, topic int) ([]api.Held, api.Errno) {
	if err := listsError(l, nil, edicts); err != api.OK {
		return nil, err
	}
	if !isHour(hour) || !isDir(dir) || !isTopic(topic) {
		return nil, api.ErrArg
	}
	return wanted(l, edicts, hour, way{topic, dir}).held(), api.OK
}

// Compare returns the gaps between what holds and what must hold.
func Compare(l api.Line, signs []api.Sign, edicts []api.Edict, hour int) ([]api.Gap, api.Errno) {
	if err := listsError(l, signs, edicts); err != api.OK {
		return nil, err
	}
	if !isHour(hour) {
		return nil, api.ErrArg
	}
	var gaps []api.Gap
	for _, w := range ways {
		has, should := told(l, signs, hour, w), wanted(l, edicts, hour, w)
		both := func(metre int) [2]int { return [2]int{has.at(metre), should.at(metre)} }
		for _, p := range parts(slices.Concat(has.cuts, should.cuts), both) {
			if p.value[0] != p.value[1] {
				gaps = append(gaps, api.Gap{Topic: w.topic, Dir: w.dir, From: p.From, To: p.To, Has: p.value[0], Should: p.value[1]})
			}
		}
	}
	return gaps, api.OK
}

// told returns the course of what signs make hold.
func told(l api.Line, signs []api.Sign, hour int, w way) course {
	row := rowOf(l, signs, hour, w.dir)
	cuts := []int{0, l.Length}
	for _, p := range row {
		cuts = append(cuts, distance(l, w.dir, p.distance), distance(l, w.dir, p.until))
	}
	return course{func(metre int) int { return holdsAt(row, w.topic, beginOf(l, w.dir, metre)) }, cuts}
}

// wanted returns the course of what must hold.
func wanted(l api.Line, edicts []api.Edict, hour int, w way) course {
	cuts := []int{0, l.Length}
	for _, e := range edicts {
		cuts = append(cuts, e.From, e.To)
	}
	return course{func(metre int) int { return mustAt(edicts, hour, w, metre) }, cuts}
}

// mustAt returns what must hold on a metre: of the edicts for it, that with the greatest number says it.
func mustAt(edicts []api.Edict, hour int, w way, metre int) int {
	greatest, value := 0, 0
	for _, e := range edicts {
		if e.Topic == w.topic && e.Dir == w.dir && e.From <= metre && metre < e.To && e.Start <= hour && hour < e.End &&
			e.Number > greatest {
			greatest, value = e.Number, e.Value
		}
	}
	return value
}

// held returns the stretches of a course with a value other than 0.
func (c course) held() []api.Held {
	var all []api.Held
	for _, p := range parts(c.cuts, c.at) {
		if p.value != 0 {
			all = append(all, api.Held{From: p.From, To: p.To, Value: p.value})
		}
	}
	return all
}
