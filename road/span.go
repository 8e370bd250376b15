package road

import (
	"cmp"
	"slices"

	"blazon/api"
)

// maxSpans is the greatest number of stretches of a list.
const maxSpans = 1000

// Union returns the metres of a list as few stretches, in ascending order.
func Union(l []api.Span) ([]api.Span, api.Errno) {
	if !listsValid(l) {
		return nil, api.ErrArg
	}
	return union(l...), api.OK
}

// Minus returns the metres that are in a and not in b, as few stretches, in ascending order.
func Minus(a, b []api.Span) ([]api.Span, api.Errno) {
	if !listsValid(a, b) {
		return nil, api.ErrArg
	}
	// What is left is what is neither outside of a nor in b.
	return outside(append(outside(a...), b...)...), api.OK
}

// Total returns how many metres a list has.
func Total(l []api.Span) (int, api.Errno) {
	if !listsValid(l) {
		return 0, api.ErrArg
	}
	return total(l...), api.OK
}

func listsValid(lists ...[]api.Span) bool {
	wrong := func(s api.Span) bool { return !isStretch(s, api.MaxChain) }
	return !slices.ContainsFunc(lists, func(l []api.Span) bool {
		return len(l) > maxSpans || slices.ContainsFunc(l, wrong)
	})
}

// isStretch reports whether s is a stretch of a road of a length.
func isStretch(s api.Span, length int) bool {
	return within(0, length, s.From, s.To) && s.From < s.To
}

// union is Union for stretches that are known to be valid, or to be without metres.
func union(l ...api.Span) []api.Span {
	ascending := slices.Clone(l)
	slices.SortFunc(ascending, func(a, b api.Span) int { return cmp.Compare(a.From, b.From) })
	var joined []api.Span
	for _, s := range ascending {
		if last := len(joined) - 1; last >= 0 && s.From <= joined[last].To {
			joined[last].To = max(joined[last].To, s.To)
		} else {
			joined = append(joined, s)
		}
	}
	return joined
}

// total is Total for stretches that are known to be valid, or to be without metres.
func total(l ...api.Span) int {
	metres := 0
	for _, s := range union(l...) {
		metres += s.To - s.From
	}
	return metres
}

// outside returns the metres of the longest road that are in none of some stretches.
func outside(l ...api.Span) []api.Span {
	var all []api.Span
	from := 0
	for _, s := range append(union(l...), api.Span{From: api.MaxChain, To: api.MaxChain}) {
		if from < s.From {
			all = append(all, api.Span{From: from, To: s.From})
		}
		from = s.To
	}
	return all
}
