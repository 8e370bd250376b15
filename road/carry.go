package road

import (
	"slices"

	"blazon/api"
)

// swap is a change as it is met on the way from one version to the next one, upwards or backwards: behind the point at,
// so many metres are taken out and so many are put in.
type swap struct {
	at, out, in int
}

// swaps returns what is met from one version of a valid road to another one.
func swaps(r api.Road, from, to int) []swap {
	var way []swap
	for _, c := range r.Changes[min(from, to):max(from, to)] {
		old := c.To - c.From
		if from < to {
			way = append(way, swap{at: c.From, out: old, in: c.New})
		} else {
			way = append(way, swap{at: c.From, out: c.New, in: old})
		}
	}
	if from > to {
		slices.Reverse(way)
	}
	return way
}

// Carry returns the chainage to which a place is carried from one version to another one.
func Carry(r api.Road, c, from, to int) (int, api.Errno) {
	if err := roadError(r, from, to); err != api.OK {
		return 0, err
	}
	if !within(0, lengthOf(r, from), c) {
		return 0, api.ErrArg
	}
	carried, ok := carry(c, swaps(r, from, to)...)
	if !ok {
		return 0, api.ErrLost
	}
	return carried, api.OK
}

// carry carries a place along a way, and reports whether it is not lost.
func carry(c int, way ...swap) (int, bool) {
	for _, s := range way {
		switch {
		case c <= s.at:
			// The point at stays also where nothing is taken out there, although the other end is the same point then.
		case c >= s.at+s.out:
			c += s.in - s.out
		default:
			return 0, false
		}
	}
	return c, true
}

// Same reports whether two places are one, carried from either version to the other one.
func Same(r api.Road, c, v, d, w int) (bool, api.Errno) {
	if err := roadError(r, v, w); err != api.OK {
		return false, err
	}
	if !within(0, lengthOf(r, v), c) || !within(0, lengthOf(r, w), d) {
		return false, api.ErrArg
	}
	there, arrives := carry(c, swaps(r, v, w)...)
	back, returns := carry(d, swaps(r, w, v)...)
	return arrives && there == d || returns && back == c, api.OK
}

// Kept returns what is left of a stretch that is carried from one version to another one.
func Kept(r api.Road, s api.Span, from, to int) ([]api.Span, api.Errno) {
	if err := roadError(r, from, to); err != api.OK {
		return nil, err
	}
	if !isStretch(s, lengthOf(r, from)) {
		return nil, api.ErrArg
	}
	return kept(s, swaps(r, from, to)...), api.OK
}

// kept is Kept along a way.
func kept(s api.Span, way ...swap) []api.Span {
	left := []api.Span{s}
	for _, w := range way {
		var next []api.Span
		for _, s := range left {
			next = append(next, w.kept(s)...)
		}
		left = next
	}
	return union(left...)
}

// kept returns what of a stretch is carried up to the point at, and from the other end on.
func (w swap) kept(s api.Span) []api.Span {
	moved := w.in - w.out
	parts := [2]api.Span{
		{From: s.From, To: min(s.To, w.at)},
		{From: max(s.From, w.at+w.out) + moved, To: s.To + moved},
	}
	return slices.DeleteFunc(parts[:], func(p api.Span) bool { return p.From >= p.To })
}

// Gone returns how many metres of a whole version are not left in another one.
func Gone(r api.Road, from, to int) (int, api.Errno) {
	if err := roadError(r, from, to); err != api.OK {
		return 0, err
	}
	length := lengthOf(r, from)
	whole := api.Span{From: 0, To: length}
	return length - total(kept(whole, swaps(r, from, to)...)...), api.OK
}
