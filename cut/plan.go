package cut

import (
	"cmp"
	"slices"

	"blazon/api"
)

// Canonical returns the plan that has the same patterns as often, each once and the greatest in front.
func Canonical(c api.Cutting, plan []api.Batch) ([]api.Batch, api.Errno) {
	if err := Check(c, plan); err != api.OK {
		return nil, err
	}
	return canonical(plan), api.OK
}

// canonical is Canonical for a plan that Check accepts.
func canonical(plan []api.Batch) []api.Batch {
	var sorted []api.Batch
	for _, b := range plan {
		if slices.ContainsFunc(b.Counts, func(n int) bool { return n > 0 }) {
			sorted = append(sorted, api.Batch{Times: b.Times, Counts: slices.Clone(b.Counts)})
		}
	}
	slices.SortFunc(sorted, func(a, b api.Batch) int { return slices.Compare(b.Counts, a.Counts) })
	var joined []api.Batch
	for _, b := range sorted {
		if last := len(joined) - 1; last >= 0 && slices.Equal(joined[last].Counts, b.Counts) {
			joined[last].Times += b.Times
		} else {
			joined = append(joined, b)
		}
	}
	return joined
}

// Greedy returns the plan that cuts the longest pieces first, each from the first roll with room for it.
func Greedy(c api.Cutting) ([]api.Batch, api.Errno) {
	if !Valid(c) {
		return nil, api.ErrCutting
	}
	var begun []api.Batch
	var left []int // the room that is left in each roll that was begun
	for _, ask := range longestFirst(c) {
	pieces:
		for range c.Asks[ask].Count {
			for i := range begun {
				if size(c, ask) <= left[i] {
					begun[i].Counts[ask]++
					left[i] -= size(c, ask)
					continue pieces
				}
			}
			fresh := api.Batch{Times: 1, Counts: make([]int, len(c.Asks))}
			fresh.Counts[ask] = 1
			begun = append(begun, fresh)
			left = append(left, room(c)-size(c, ask))
		}
	}
	return canonical(begun), api.OK
}

// longestFirst returns the indexes of c's asks by descending lengths, those of equal lengths in their order.
func longestFirst(c api.Cutting) []int {
	order := make([]int, len(c.Asks))
	for i := range order {
		order[i] = i
	}
	slices.SortStableFunc(order, func(a, b int) int { return cmp.Compare(c.Asks[b].Length, c.Asks[a].Length) })
	return order
}

// Least returns the least number of rolls from which the pieces of a cutting can be cut.
func Least(c api.Cutting) (int, api.Errno) {
	if !Valid(c) {
		return 0, api.ErrCutting
	}
	var sizes []int
	for i, a := range c.Asks {
		for range a.Count {
			sizes = append(sizes, size(c, i))
		}
	}
	if len(sizes) > api.MaxExact {
		return 0, api.ErrWide
	}
	return fewest(sizes, room(c)), api.OK
}

// filled is a state of cutting: the number of rolls that were begun, and how much of the last one is taken.
type filled struct {
	rolls, taken int
}

// fewest returns the least number of rolls with some room for pieces with some sizes. It finds the best state for each set
// of pieces (a number that has a bit for each of them) from the sets that lack one piece. Of two states the one with fewer
// rolls is better, even if its last roll has no room left: what is cut next then begins a roll, and no more than that.
func fewest(sizes []int, room int) int {
	best := make([]filled, 1<<len(sizes))
	best[0].taken = room
	for set := 1; set < len(best); set++ {
		best[set].rolls = len(sizes) + 1
		for i, size := range sizes {
			if set&(1<<i) == 0 {
				continue
			}
			next := best[set&^(1<<i)].with(size, room)
			if next.rolls < best[set].rolls || next.rolls == best[set].rolls && next.taken < best[set].taken {
				best[set] = next
			}
		}
	}
	return best[len(best)-1].rolls
}

// with returns the state after one more piece, from the last roll if there is room for it.
func (f filled) with(size, room int) filled {
	if f.taken+size <= room {
		return filled{f.rolls, f.taken + size}
	}
	return filled{f.rolls + 1, size}
}
