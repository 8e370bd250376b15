package rule

import (
	"slices"

	"blazon/api"
)

// posted is a sign of a row: with its distance, how far what it starts reaches, and, of a plate, whether it is that of a
// start.
type posted struct {
	api.Sign
	distance, until int
	belongs         bool
}

// Speaks reports whether a sign speaks at an hour.
func Speaks(s api.Sign, hour int) bool {
	return s.Up <= hour && hour < s.Down &&
		!slices.ContainsFunc(s.Covers, func(c api.Span) bool { return c.From <= hour && hour < c.To })
}

// Row returns the numbers of the signs that speak in a direction, as a car meets them.
func Row(l api.Line, signs []api.Sign, hour, dir int) ([]int, api.Errno) {
	if err := listsError(l, signs, nil); err != api.OK {
		return nil, err
	}
	if !isHour(hour) || !isDir(dir) {
		return nil, api.ErrArg
	}
	var numbers []int
	for _, p := range rowOf(l, signs, hour, dir) {
		numbers = append(numbers, p.Number)
	}
	return numbers, api.OK
}

// rowOf returns the row of a direction at an hour.
func rowOf(l api.Line, signs []api.Sign, hour, dir int) []posted {
	var row []posted
	for _, s := range signs {
		if s.Dir == dir && Speaks(s, hour) {
			d := distance(l, dir, s.Chain)
			row = append(row, posted{Sign: s, distance: d, until: openUntil(l, dir, d)})
		}
	}
	slices.SortFunc(row, by(
		func(p posted) int { return p.distance },
		func(p posted) int { return p.Rank },
		func(p posted) int { return p.Number },
	))
	for i := 1; i < len(row); i++ {
		start, plate := &row[i-1], &row[i]
		if topicOf(start.Kind) != 0 && plate.Kind == api.Plate && plate.distance == start.distance {
			plate.belongs = true
			start.until = min(start.until, start.distance+plate.Value)
		}
	}
	return row
}

// distance returns how far a car has driven when it comes to a chainage. The chainage of a distance is found in the same way.
func distance(l api.Line, dir, c int) int {
	if dir == 1 {
		return c
	}
	return l.Length - c
}

// beginOf returns the distance at which a metre begins.
func beginOf(l api.Line, dir, metre int) int {
	if dir == 1 {
		return metre
	}
	return l.Length - 1 - metre
}

// metreAt returns the metre that begins at a distance, which is counted from the end of a line as metres are from its beginning.
func metreAt(l api.Line, dir, k int) int {
	return beginOf(l, dir, k)
}

// openUntil returns the distance of the next junction behind a distance, or of the end of the line.
func openUntil(l api.Line, dir, d int) int {
	until := l.Length
	for _, j := range l.Junctions {
		if at := distance(l, dir, j); at > d {
			until = min(until, at)
		}
	}
	return until
}

// topicOf returns the topic of which a kind is a start; 0 if it is none.
func topicOf(kind int) int {
	switch kind {
	case api.Limit:
		return api.TopicLimit
	case api.NoPass:
		return api.TopicPass
	}
	return 0
}

// isEnd reports whether a kind is an end of a topic.
func isEnd(kind, topic int) bool {
	return kind == api.EndAll || kind == api.LimitEnd && topic == api.TopicLimit || kind == api.NoPassEnd && topic == api.TopicPass
}

// holdsAt returns what a row makes hold on the metre that begins at a distance.
func holdsAt(row []posted, topic, k int) int {
	value := 0
	for _, p := range row {
		if p.distance > k {
			break
		}
		switch {
		case isEnd(p.Kind, topic), topicOf(p.Kind) == topic && p.until <= k:
			value = 0
		case topicOf(p.Kind) == topic:
			value = p.started()
		}
	}
	return value
}

// started returns the value of a start.
func (p posted) started() int {
	if p.Kind == api.NoPass {
		return 1
	}
	return p.Value
}
