package cut_test

import (
	"fmt"
	"math/rand/v2"
	"regexp"
	"slices"
	"strconv"
	"strings"

	"blazon/api"
)

// The tests hold the package against a second way to the same results, which follows the words of the chapter and tries
// out what there is.

// everyPattern calls look with each pattern that fits and has at most a number of pieces of each ask.
func everyPattern(c api.Cutting, most []int, look func(pattern []int)) {
	pattern := make([]int, len(c.Asks))
	var choose func(ask, length int)
	choose = func(ask, length int) {
		if ask == len(c.Asks) {
			look(pattern)
			return
		}
		for n := 0; n <= most[ask] && length+n*(c.Asks[ask].Length+c.Kerf) <= c.Length+c.Kerf; n++ {
			pattern[ask] = n
			choose(ask+1, length+n*(c.Asks[ask].Length+c.Kerf))
		}
		pattern[ask] = 0
	}
	choose(0, 0)
}

func counts(c api.Cutting) []int {
	var l []int
	for _, a := range c.Asks {
		l = append(l, a.Count)
	}
	return l
}

// referenceDearest tries out all patterns.
func referenceDearest(c api.Cutting, prices []int) int {
	greatest := 0
	everyPattern(c, counts(c), func(pattern []int) {
		worth := 0
		for i, n := range pattern {
			worth += n * prices[i]
		}
		greatest = max(greatest, worth)
	})
	return greatest
}

// referenceLeast tries out all plans, roll by roll.
func referenceLeast(c api.Cutting) int {
	known := map[string]int{}
	var least func(missing []int) int
	least = func(missing []int) int {
		if !slices.ContainsFunc(missing, func(n int) bool { return n > 0 }) {
			return 0
		}
		key := fmt.Sprint(missing)
		if n, ok := known[key]; ok {
			return n
		}
		best := 1 << 30
		everyPattern(c, missing, func(pattern []int) {
			rest := slices.Clone(missing)
			some := false
			for i, n := range pattern {
				rest[i] -= n
				some = some || n > 0
			}
			if some {
				best = min(best, 1+least(rest))
			}
		})
		known[key] = best
		return best
	}
	return least(counts(c))
}

// referenceGreedy keeps each roll as a list of its pieces.
func referenceGreedy(c api.Cutting) []api.Batch {
	type piece struct{ length, ask int }
	var pieces []piece
	for ask, a := range c.Asks {
		for range a.Count {
			pieces = append(pieces, piece{a.Length, ask})
		}
	}
	slices.SortFunc(pieces, func(a, b piece) int {
		if a.length != b.length {
			return b.length - a.length
		}
		return a.ask - b.ask
	})
	var rolls [][]piece
	for _, p := range pieces {
		i := slices.IndexFunc(rolls, func(roll []piece) bool {
			sum := p.length + c.Kerf
			for _, q := range roll {
				sum += q.length + c.Kerf
			}
			return sum <= c.Length+c.Kerf
		})
		if i < 0 {
			i = len(rolls)
			rolls = append(rolls, nil)
		}
		rolls[i] = append(rolls[i], p)
	}
	var plan []api.Batch
	for _, roll := range rolls {
		pattern := make([]int, len(c.Asks))
		for _, p := range roll {
			pattern[p.ask]++
		}
		plan = append(plan, api.Batch{Times: 1, Counts: pattern})
	}
	return referenceCanonical(plan)
}

// referenceCanonical counts the patterns by their texts, and takes the greatest one that is left again and again.
func referenceCanonical(plan []api.Batch) []api.Batch {
	times := map[string]int{}
	patterns := map[string][]int{}
	for _, b := range plan {
		if strings.Trim(fmt.Sprint(b.Counts), "[0 ]") != "" {
			times[fmt.Sprint(b.Counts)] += b.Times
			patterns[fmt.Sprint(b.Counts)] = b.Counts
		}
	}
	var result []api.Batch
	for len(patterns) > 0 {
		greatest := ""
		for key, p := range patterns {
			if greatest == "" || slices.Compare(p, patterns[greatest]) > 0 {
				greatest = key
			}
		}
		result = append(result, api.Batch{Times: times[greatest], Counts: slices.Clone(patterns[greatest])})
		delete(patterns, greatest)
	}
	return result
}

var innermost = regexp.MustCompile(`[hv] ([1-9][0-9]{0,2}|1000) \([a-z_.], [a-z_.]\)`)

// referenceError returns the error of Parse: it puts a dot for each innermost cut until there is none left.
func referenceError(text string) api.Errno {
	if len(text) > 2000 {
		return api.ErrDeep
	}
	if strings.Contains(text, ".") {
		return api.ErrForm
	}
	level, deepest := 1, 1
	for _, b := range text {
		switch b {
		case '(':
			level++
		case ')':
			level--
		}
		deepest = max(deepest, level)
	}
	for innermost.MatchString(text) {
		text = innermost.ReplaceAllString(text, ".")
	}
	if len(text) != 1 || text != "_" && text != "." && (text < "a" || text > "z") {
		return api.ErrForm
	}
	if deepest > 20 {
		return api.ErrDeep
	}
	return api.OK
}

// referencePlaces goes through a text of a cut from its front to its end, with the rectangles that are still to be cut. It
// returns the error that the rectangles and the kinds give.
func referencePlaces(text string, w, h, kerf int, kinds []api.Kind) ([]api.Place, api.Errno) {
	var places []api.Place
	lost, small := false, false
	open := []api.Place{{W: w, H: h}}
	words := strings.FieldsFunc(text, func(r rune) bool { return strings.ContainsRune(" (),", r) })
	for i := 0; i < len(words); i++ {
		r := open[len(open)-1]
		open = open[:len(open)-1]
		lost = lost || r.W < 1 || r.H < 1
		if words[i] == "_" {
			continue
		}
		if i+1 < len(words) && words[i+1][0] >= '0' && words[i+1][0] <= '9' {
			a, b := r, r
			n, _ := strconv.Atoi(words[i+1])
			if words[i] == "h" {
				a.H, b.H, b.Y = n, r.H-n-kerf, r.Y+n+kerf
			} else {
				a.W, b.W, b.X = n, r.W-n-kerf, r.X+n+kerf
			}
			open = append(open, b, a)
			i++
			continue
		}
		kind := int(words[i][0]) - 'a'
		if kind >= len(kinds) {
			lost = true
			continue
		}
		small = small || kinds[kind].W > r.W || kinds[kind].H > r.H
		places = append(places, api.Place{Piece: words[i][0], X: r.X, Y: r.Y, W: kinds[kind].W, H: kinds[kind].H})
	}
	if lost {
		return nil, api.ErrPlace
	}
	if small {
		return nil, api.ErrSmall
	}
	return places, api.OK
}

// referenceClash paints each place, and a kerf to the right and above it: no dot may be painted twice.
func referenceClash(places []api.Place, w, h, kerf int) bool {
	painted := map[api.XY]bool{}
	for _, p := range places {
		for x := p.X; x < p.X+p.W+kerf; x++ {
			for y := p.Y; y < p.Y+p.H+kerf; y++ {
				outside := x < p.X+p.W && y < p.Y+p.H && (x >= w || y >= h)
				if outside || painted[api.XY{X: x, Y: y}] {
					return true
				}
				painted[api.XY{X: x, Y: y}] = true
			}
		}
	}
	return false
}

// someCutting returns a valid cutting with at most a number of pieces of each ask.
func someCutting(random *rand.Rand, most int) api.Cutting {
	c := api.Cutting{Length: 1 + random.IntN(60), Kerf: random.IntN(4)}
	if random.IntN(8) == 0 {
		c.Length, c.Kerf = 1+random.IntN(1000), random.IntN(21)
	}
	for range random.IntN(6) {
		least := 1 + c.Length/(2+random.IntN(5))
		length := min(c.Length, least+random.IntN(c.Length))
		c.Asks = append(c.Asks, api.Ask{Length: length, Count: random.IntN(most + 1)})
	}
	return c
}

func somePrices(random *rand.Rand, c api.Cutting) []int {
	var prices []int
	for _, a := range c.Asks {
		switch random.IntN(3) {
		case 0:
			prices = append(prices, a.Length)
		case 1:
			prices = append(prices, random.IntN(20))
		default:
			prices = append(prices, random.IntN(1000001))
		}
	}
	return prices
}

// somePlan returns a plan that Check accepts, with patterns that come again or have no pieces.
func somePlan(random *rand.Rand, c api.Cutting) []api.Batch {
	missing := counts(c)
	var plan []api.Batch
	for slices.ContainsFunc(missing, func(n int) bool { return n > 0 }) {
		pattern := make([]int, len(c.Asks))
		length, times := 0, 50
		for _, i := range random.Perm(len(c.Asks)) {
			room := (c.Length + c.Kerf - length) / (c.Asks[i].Length + c.Kerf)
			pattern[i] = random.IntN(min(room, missing[i]) + 1)
			length += pattern[i] * (c.Asks[i].Length + c.Kerf)
			if pattern[i] > 0 {
				times = min(times, missing[i]/pattern[i])
			}
		}
		times = 1 + random.IntN(times)
		for i, n := range pattern {
			if n > 0 {
				missing[i] -= n * times
			}
		}
		if length > 0 || len(plan) < 500 {
			plan = append(plan, api.Batch{Times: times, Counts: pattern})
		}
	}
	return plan
}

// someTree returns a tree with cuts down to a level.
func someTree(random *rand.Rand, levels int) api.Cut {
	if levels <= 1 || random.IntN(5) == 0 {
		if random.IntN(4) == 0 {
			return api.Cut{}
		}
		return api.Cut{Op: api.CutPiece, Piece: byte('a' + random.IntN(26))}
	}
	t := api.Cut{Op: api.CutH + random.IntN(2), N: 1 + random.IntN(1000)}
	t.Parts = []api.Cut{someTree(random, levels-1), someTree(random, levels-1)}
	return t
}

// plainText returns the text of a tree.
func plainText(t api.Cut) string {
	switch t.Op {
	case api.CutWaste:
		return "_"
	case api.CutPiece:
		return string(rune(t.Piece))
	}
	return fmt.Sprintf("%s %d (%s, %s)", map[int]string{2: "h", 3: "v"}[t.Op], t.N, plainText(t.Parts[0]), plainText(t.Parts[1]))
}

// sameTree reports whether two trees are equal.
func sameTree(s, t api.Cut) bool {
	return s.Op == t.Op && s.N == t.N && s.Piece == t.Piece && slices.EqualFunc(s.Parts, t.Parts, sameTree)
}
