package rule_test

import (
	"math/rand/v2"
	"slices"

	"blazon/api"
)

// The tests hold the package against a second way to the same results: a car drives along the line, metre by metre, and
// remembers what it was told; hours are tried one by one.

// referenceRow returns the signs that speak in a direction: the car stops at each distance and reads the post from above.
func referenceRow(l api.Line, signs []api.Sign, hour, dir int) []api.Sign {
	var row []api.Sign
	for k := 0; k <= l.Length; k++ {
		var post []api.Sign
		for _, s := range signs {
			speaks := s.Dir == dir && hour >= s.Up && hour < s.Down
			for _, c := range s.Covers {
				speaks = speaks && (hour < c.From || hour >= c.To)
			}
			if speaks && driven(l, dir, s.Chain) == k {
				post = append(post, s)
			}
		}
		for rank := 1; rank <= 9; rank++ {
			for len(post) > 0 {
				least := -1
				for i, s := range post {
					if s.Rank == rank && (least < 0 || s.Number < post[least].Number) {
						least = i
					}
				}
				if least < 0 {
					break
				}
				row = append(row, post[least])
				post = slices.Delete(post, least, least+1)
			}
		}
	}
	return row
}

// driven returns how far a car has driven at a chainage.
func driven(l api.Line, dir, c int) int {
	if dir == -1 {
		return l.Length - c
	}
	return c
}

// metreOf returns the metre that a car meets at a distance.
func metreOf(l api.Line, dir, k int) int {
	if dir == -1 {
		return l.Length - k - 1
	}
	return k
}

// referenceHeld drives along the line, and returns what holds on each metre, by the number of the metre.
func referenceHeld(l api.Line, signs []api.Sign, hour, dir, topic int) []int {
	row := referenceRow(l, signs, hour, dir)
	start, end := api.Limit, api.LimitEnd
	if topic == api.TopicPass {
		start, end = api.NoPass, api.NoPassEnd
	}
	values := make([]int, l.Length)
	now, left := 0, 0 // left: how many metres a plate leaves; all of them if it is below 0
	for k := range l.Length {
		if left == 0 || slices.ContainsFunc(l.Junctions, func(j int) bool { return driven(l, dir, j) == k }) {
			now = 0
		}
		for i, s := range row {
			if driven(l, dir, s.Chain) != k {
				continue
			}
			switch s.Kind {
			case start:
				now, left = max(s.Value, 1), -1
				if i+1 < len(row) && row[i+1].Kind == api.Plate && row[i+1].Chain == s.Chain {
					left = row[i+1].Value
				}
			case end, api.EndAll:
				now = 0
			}
		}
		values[metreOf(l, dir, k)] = now
		left--
	}
	return values
}

// referenceWanted returns what must hold on each metre: edicts are laid over each other in the order of their numbers.
func referenceWanted(l api.Line, edicts []api.Edict, hour, dir, topic int) []int {
	values := make([]int, l.Length)
	ordered := slices.Clone(edicts)
	slices.SortFunc(ordered, func(a, b api.Edict) int { return a.Number - b.Number })
	for _, e := range ordered {
		if e.Dir == dir && e.Topic == topic && hour >= e.Start && hour < e.End {
			for m := e.From; m < e.To; m++ {
				values[m] = e.Value
			}
		}
	}
	return values
}

// referenceStretches returns the stretches of metres with a value other than 0.
func referenceStretches(values []int) []api.Held {
	var all []api.Held
	before := 0
	for m, v := range values {
		if v != 0 && v != before {
			all = append(all, api.Held{From: m, Value: v})
		}
		if v != 0 {
			all[len(all)-1].To = m + 1
		}
		before = v
	}
	return all
}

// referenceGaps compares metre by metre.
func referenceGaps(l api.Line, signs []api.Sign, edicts []api.Edict, hour int) []api.Gap {
	var gaps []api.Gap
	for _, topic := range []int{1, 2} {
		for _, dir := range []int{1, -1} {
			has, should := referenceHeld(l, signs, hour, dir, topic), referenceWanted(l, edicts, hour, dir, topic)
			for m := range l.Length {
				if has[m] == should[m] {
					continue
				}
				if m == 0 || has[m] != has[m-1] || should[m] != should[m-1] {
					gaps = append(gaps, api.Gap{Topic: topic, Dir: dir, From: m, Has: has[m], Should: should[m]})
				}
				gaps[len(gaps)-1].To = m + 1
			}
		}
	}
	return gaps
}

// referenceFaults judges the signs one by one, in the order of their numbers.
func referenceFaults(l api.Line, signs []api.Sign, hour int) []api.Fault {
	var faults []api.Fault
	ordered := slices.Clone(signs)
	slices.SortFunc(ordered, func(a, b api.Sign) int { return a.Number - b.Number })
	for _, s := range ordered {
		row := referenceRow(l, signs, hour, s.Dir)
		i := slices.IndexFunc(row, func(r api.Sign) bool { return r.Number == s.Number })
		if i < 0 {
			continue
		}
		if code := referenceFault(l, signs, hour, row, i); code != 0 {
			faults = append(faults, api.Fault{Number: s.Number, Code: code})
		}
	}
	return faults
}

// referenceFault returns the code of the fault of the sign i of a row, or 0.
func referenceFault(l api.Line, signs []api.Sign, hour int, row []api.Sign, i int) int {
	s := row[i]
	far := driven(l, s.Dir, s.Chain)
	// at returns what holds on the metre that begins at a distance; 0 if there is no such metre
	at := func(topic, k int) int {
		if k < 0 || k >= l.Length {
			return 0
		}
		return referenceHeld(l, signs, hour, s.Dir, topic)[metreOf(l, s.Dir, k)]
	}
	switch s.Kind {
	case api.Limit, api.NoPass:
		if far == l.Length {
			return 4
		}
	case api.LimitEnd:
		if at(1, far-1) == 0 {
			return 3
		}
	case api.NoPassEnd:
		if at(2, far-1) == 0 {
			return 3
		}
	case api.EndAll:
		if at(1, far-1) == 0 && at(2, far-1) == 0 {
			return 3
		}
	case api.Repeat:
		if at(1, far) != s.Value {
			return 2
		}
	case api.Plate:
		if i == 0 || row[i-1].Chain != s.Chain || row[i-1].Kind != api.Limit && row[i-1].Kind != api.NoPass || far+s.Value > l.Length {
			return 1
		}
	}
	return 0
}

// referenceMoments tries all hours of some.
func referenceMoments(signs []api.Sign, edicts []api.Edict, tried []int) []int {
	var all []int
	for _, h := range tried {
		found := false
		for _, s := range signs {
			found = found || s.Up == h || s.Down == h
			for _, c := range s.Covers {
				found = found || c.From == h || c.To == h
			}
		}
		for _, e := range edicts {
			found = found || e.Start == h || e.End == h
		}
		if found {
			all = append(all, h)
		}
	}
	return all
}

// referencePropose drives through all metres, and puts a sign wherever what must hold is not what the car knows.
func referencePropose(l api.Line, edicts []api.Edict, hour int) []api.Sign {
	var signs []api.Sign
	kinds := map[int][2]int{1: {api.Limit, api.LimitEnd}, 2: {api.NoPass, api.NoPassEnd}}
	for _, topic := range []int{1, 2} {
		for _, dir := range []int{1, -1} {
			now := 0
			for k := range l.Length {
				chain := driven(l, dir, k)
				if slices.Contains(l.Junctions, chain) {
					now = 0
				}
				must := referenceWanted(l, edicts, hour, dir, topic)[metreOf(l, dir, k)]
				if must == now {
					continue
				}
				now = must
				s := api.Sign{Number: len(signs) + 1, Kind: kinds[topic][0], Chain: chain, Dir: dir, Rank: topic, Up: hour, Down: hour + 1}
				if topic == 1 {
					s.Value = must
				}
				if must == 0 {
					s.Kind = kinds[topic][1]
				}
				signs = append(signs, s)
			}
		}
	}
	return signs
}

// upTo returns a number from least to most, often one of these.
func upTo(r *rand.Rand, least, most int) int {
	switch r.IntN(6) {
	case 0:
		return least
	case 1:
		return most
	}
	return least + r.IntN(most-least+1)
}

// tries are the hours at which something happens in what the functions below return, with some beside them.
func tries() []int {
	var all []int
	for h := range 15 {
		all = append(all, h)
	}
	for h := range 15 {
		all = append(all, maxHour-14+h)
	}
	return all
}

// someTime returns a span of hours, at the beginning or at the end of all hours, or from there to there.
func someTime(r *rand.Rand) (from, to int) {
	first, second := upTo(r, 0, 12), upTo(r, maxHour-11, maxHour+1)
	switch r.IntN(4) {
	case 0:
		return upTo(r, 0, first), first + 1
	case 1:
		return upTo(r, maxHour-12, second-1), second
	}
	return first, second
}

// someLine returns a short line.
func someLine(r *rand.Rand) api.Line {
	l := api.Line{Length: upTo(r, 1, 24)}
	for j := 1; j < l.Length; j++ {
		if r.IntN(6) == 0 {
			l.Junctions = append(l.Junctions, j)
		}
	}
	return l
}

// someSigns returns at most so many signs, many of them together on few posts, of few values. Many stand right under the sign
// in front of them, and at its hours; most of these are plates.
func someSigns(r *rand.Rand, l api.Line, most int) []api.Sign {
	var signs []api.Sign
	posts := []int{upTo(r, 0, l.Length), upTo(r, 0, l.Length), upTo(r, 0, l.Length)}
	numbers := r.Perm(40)
	for i := range r.IntN(most + 1) {
		s := api.Sign{Number: numbers[i] + 1, Kind: 1 + r.IntN(8), Chain: posts[r.IntN(3)], Dir: 1 - 2*r.IntN(2), Rank: upTo(r, 1, 4)}
		s.Up, s.Down = someTime(r)
		switch r.IntN(4) {
		case 0:
			s.Chain = upTo(r, 0, l.Length)
		case 1, 2:
			if i > 0 {
				above := signs[i-1]
				s.Chain, s.Dir, s.Rank, s.Up, s.Down = above.Chain, above.Dir, min(above.Rank+r.IntN(2), 9), above.Up, above.Down
				s.Kind = []int{s.Kind, api.Plate, api.Plate}[r.IntN(3)]
			}
		}
		switch s.Kind {
		case api.Limit, api.Repeat:
			s.Value = 50 + 20*r.IntN(2)
		case api.Plate:
			s.Value = upTo(r, 1, l.Length+1)
		case api.Warning:
			s.Value = r.IntN(1001)
		}
		for range max(0, r.IntN(5)-2) {
			from, to := someTime(r)
			s.Covers = append(s.Covers, api.Span{From: from, To: to})
		}
		signs = append(signs, s)
	}
	return signs
}

// someEdicts returns at most so many edicts, of few values.
func someEdicts(r *rand.Rand, l api.Line, most int) []api.Edict {
	var edicts []api.Edict
	numbers := r.Perm(40)
	for i := range r.IntN(most + 1) {
		from := upTo(r, 0, l.Length-1)
		e := api.Edict{Number: numbers[i] + 1, Topic: 1, Value: 50 + 20*r.IntN(2), Dir: 1 - 2*r.IntN(2), From: from, To: upTo(r, from+1, l.Length)}
		if r.IntN(2) == 0 {
			e.Topic, e.Value = 2, 1
		}
		e.Start, e.End = someTime(r)
		edicts = append(edicts, e)
	}
	return edicts
}
