package road_test

import (
	"math/rand/v2"
	"slices"

	"blazon/api"
)

// The tests hold the package against a second way to the same results: each metre of a road has a name that it keeps, places
// are carried by the words of the chapter, stretches are sets of metres, and what stands along a road is found by trying.

// referenceUp carries a place over a change.
func referenceUp(ch api.Change, c int) (int, bool) {
	switch {
	case c < ch.From:
		return c, true
	case c > ch.To:
		return c + ch.New - (ch.To - ch.From), true
	case c == ch.From:
		return ch.From, true
	case c == ch.To:
		return ch.From + ch.New, true
	}
	return 0, false
}

// referenceDown carries a place back over a change.
func referenceDown(ch api.Change, c int) (int, bool) {
	switch {
	case ch.New == 0 && ch.From != ch.To && c == ch.From:
		return ch.From, true
	case c < ch.From:
		return c, true
	case c > ch.From+ch.New:
		return c - ch.New + (ch.To - ch.From), true
	case c == ch.From:
		return ch.From, true
	case c == ch.From+ch.New:
		return ch.To, true
	}
	return 0, false
}

// referenceCarry returns the places on the way of one that is carried, its own one first, and whether it arrives.
func referenceCarry(r api.Road, c, from, to int) ([]int, bool) {
	places := []int{c}
	for from != to {
		var ok bool
		if from < to {
			c, ok = referenceUp(r.Changes[from], c)
			from++
		} else {
			from--
			c, ok = referenceDown(r.Changes[from], c)
		}
		if !ok {
			return places, false
		}
		places = append(places, c)
	}
	return places, true
}

// referenceMetres returns the names of the metres of each version of a road.
func referenceMetres(r api.Road) [][]int {
	last := 0
	fresh := func(count int) []int {
		var names []int
		for range count {
			last++
			names = append(names, last)
		}
		return names
	}
	versions := [][]int{fresh(r.Length)}
	for k, ch := range r.Changes {
		old := versions[k]
		versions = append(versions, slices.Concat(old[:ch.From], fresh(ch.New), old[ch.To:]))
	}
	return versions
}

// referenceKept looks for the metres of a stretch in the other version; a metre that was taken out never comes back.
func referenceKept(r api.Road, s api.Span, from, to int) []api.Span {
	versions := referenceMetres(r)
	names := versions[from][s.From:s.To]
	metres := map[int]bool{}
	for m, name := range versions[to] {
		if slices.Contains(names, name) {
			metres[m] = true
		}
	}
	return referenceSpans(metres)
}

// metresOf returns the set of the metres of stretches.
func metresOf(l []api.Span) map[int]bool {
	metres := map[int]bool{}
	for _, s := range l {
		for m := s.From; m < s.To; m++ {
			metres[m] = true
		}
	}
	return metres
}

// referenceSpans returns a set of metres below 1000 as few stretches.
func referenceSpans(metres map[int]bool) []api.Span {
	var spans []api.Span
	for m := range 1000 {
		if !metres[m] {
			continue
		}
		if m == 0 || !metres[m-1] {
			spans = append(spans, api.Span{From: m, To: m})
		}
		spans[len(spans)-1].To = m + 1
	}
	return spans
}

// referenceWarn tries the chainages around a danger.
func referenceWarn(danger, dir, speed int) api.Span {
	least := 250
	if speed <= 100 {
		least = 150
	}
	if speed <= 50 {
		least = 50
	}
	var span api.Span
	for c := max(danger-1000, 0); c <= danger+1000; c++ {
		if far := (danger - c) * dir; far >= least && far <= least+100 {
			if span.To == 0 {
				span.From = c
			}
			span.To = c + 1
		}
	}
	return span
}

// referenceCrowded goes through all pairs of posts.
func referenceCrowded(posts []api.Post, gap int) [][2]int {
	var pairs [][2]int
	for i := range posts {
		for k := range posts {
			a, b := posts[i], posts[k]
			if i < k && a.Dir == b.Dir && a.Side == b.Side && a.Chain-b.Chain < gap && b.Chain-a.Chain < gap {
				pairs = append(pairs, [2]int{i, k})
			}
		}
	}
	return pairs
}

// referenceSight tries all distances, and for each all half metres between the car and the post.
func referenceSight(post api.Post, walls []api.Wall, far int) int {
	seen := -1
	for x := 0; x <= far; x++ {
		car := post.Chain - post.Dir*x
		hidden := car < 0
		for half := 2*min(car, post.Chain) + 1; half < 2*max(car, post.Chain); half++ {
			hidden = hidden || slices.ContainsFunc(walls, func(w api.Wall) bool {
				return w.Side == post.Side && 2*w.From <= half && half <= 2*w.To
			})
		}
		if !hidden {
			seen = x
		}
	}
	return seen
}

// upTo returns a number from least to most, often one of these.
func upTo(r *rand.Rand, least, most int) int {
	switch r.IntN(6) {
	case 0:
		return least
	case 1:
		return most
	}
	return least + r.IntN(most-least+1)
}

// someRoad returns a short road, whose changes are often at its ends, or take nothing out, or put nothing in.
func someRoad(r *rand.Rand) api.Road {
	road := api.Road{Number: upTo(r, 1, 1000000), Length: upTo(r, 0, 30)}
	length, day := road.Length, 0
	for range r.IntN(7) {
		day = upTo(r, day, min(day+3, 100000))
		from := upTo(r, 0, length)
		change := api.Change{Day: day, From: from, To: upTo(r, from, length), New: upTo(r, 0, 12)}
		length += change.New - (change.To - change.From)
		road.Changes = append(road.Changes, change)
	}
	return road
}

// someSpans returns at most so many stretches below 1000.
func someSpans(r *rand.Rand, most int) []api.Span {
	var l []api.Span
	for range r.IntN(most + 1) {
		from := r.IntN(60)
		l = append(l, api.Span{From: from, To: upTo(r, from+1, from+12)})
	}
	return l
}
