package face

import (
	"iter"

	"blazon/api"
)

// What is on top at a dot, if it is no item.
const (
	nothing = -1 // the dot belongs to the shape, and no item paints it
	outside = -2 // the dot does not belong to the shape
)

// canvas is a valid face with its figure and the extent of its box.
type canvas struct {
	shape figure
	w, h  int
	items []api.Item
}

func canvasOf(f api.Face) canvas {
	shape := figureOf(f)
	w, h := shape.extent()
	return canvas{shape: shape, w: w, h: h, items: f.Items}
}

// has reports whether the box has the dot (i, j), which may be any numbers: the other methods calculate with dots of
// the box alone, where nothing overflows.
func (c canvas) has(i, j int) bool {
	return between(i, 0, c.w-1) && between(j, 0, c.h-1)
}

// dots gives out the dots of the box, row by row from below.
func (c canvas) dots() iter.Seq2[int, int] {
	return func(yield func(i, j int) bool) {
		for j := range c.h {
			for i := range c.w {
				if !yield(i, j) {
					return
				}
			}
		}
	}
}

// centre returns X and Y of a dot.
func (c canvas) centre(i, j int) (x, y int) {
	return 2*i + 1 - c.w, 2*j + 1 - c.h
}

// colour returns the colour of a dot of the box.
func (c canvas) colour(i, j int) int {
	switch top := c.top(i, j); top {
	case outside:
		return 0
	case nothing:
		return api.Bare
	default:
		return c.items[top].Colour
	}
}

// seen returns the indexes of the items of which at least one dot is seen.
func (c canvas) seen() map[int]bool {
	seen := map[int]bool{}
	for i, j := range c.dots() {
		seen[c.top(i, j)] = true
	}
	delete(seen, nothing)
	delete(seen, outside)
	return seen
}

// top returns the index of the last item that paints a dot of the box, or else nothing or outside.
func (c canvas) top(i, j int) int {
	if x, y := c.centre(i, j); !c.shape.within(x, y, 0) {
		return outside
	}
	for k := len(c.items) - 1; k >= 0; k-- {
		if c.paints(c.items[k], i, j) {
			return k
		}
	}
	return nothing
}

// paints reports whether an item paints a dot, if the dot belongs to the shape.
func (c canvas) paints(it api.Item, i, j int) bool {
	switch it.Kind {
	case api.ItemRim:
		x, y := c.centre(i, j)
		return !c.shape.within(x, y, it.A)
	case api.ItemBox:
		return between(i-it.Left, 0, it.A-1) && between(j-it.Low, 0, it.B-1)
	case api.ItemDisc:
		x, y := 2*(i-it.Left)+1-it.A, 2*(j-it.Low)+1-it.A
		return x*x+y*y <= it.A*it.A
	case api.ItemSlash:
		x, y := c.centre(i, j)
		return 2*abs(x*c.h-y*c.w) <= it.A*(c.w+c.h)
	case api.ItemText:
		return inked(it, i-it.Left, j-it.Low)
	}
	return true
}

// inked reports whether a text has a letter's square at the dot that lies so far to the right of its lower left dot,
// and so far above it.
func inked(it api.Item, right, above int) bool {
	if right < 0 || right/(letterStep*it.A) >= len(it.Text) || !between(above, 0, letterHeight*it.A-1) {
		return false
	}
	letter := it.Text[right/(letterStep*it.A)]
	column := right / it.A % letterStep
	return inkedSquare(rune(letter), column, above/it.A)
}
