// Package face is layer 1: the works' language for sign faces. A short text stands for a face; from the face follow the
// colour of each of its dots, the areas of its colours, its screens and seams, and the panels with lines of text. Its
// chapter is shared/doc/01-face.md.
package face

import "blazon/api"

// Extent returns how many dots the rows of the box of f have, and how many rows there are.
func Extent(f api.Face) (w, h int, err api.Errno) {
	if !Valid(f) {
		return 0, 0, api.ErrFace
	}
	w, h = figureOf(f).extent()
	return w, h, api.OK
}

// At returns the colour of dot (i, j): api.Bare where no item paints it, 0 where it does not belong to the shape.
func At(f api.Face, i, j int) (int, api.Errno) {
	if !Valid(f) {
		return 0, api.ErrFace
	}
	c := canvasOf(f)
	if !c.has(i, j) {
		return 0, api.OK
	}
	return c.colour(i, j), api.OK
}

// Row returns the dots of row j that belong to the shape, as runs from left to right.
func Row(f api.Face, j int) ([]api.Run, api.Errno) {
	if !Valid(f) {
		return nil, api.ErrFace
	}
	c := canvasOf(f)
	if !c.has(0, j) {
		return nil, api.ErrArg
	}
	var runs []api.Run
	last := 0
	for i := range c.w {
		colour := c.colour(i, j)
		if colour != 0 && colour == last {
			runs[len(runs)-1].Count++
		} else if colour != 0 {
			runs = append(runs, api.Run{From: i, Count: 1, Colour: colour})
		}
		last = colour
	}
	return runs, api.OK
}

// Areas returns how many dots of the box have each colour, by the colours' numbers.
func Areas(f api.Face) ([10]int, api.Errno) {
	if !Valid(f) {
		return [10]int{}, api.ErrFace
	}
	var areas [10]int
	c := canvasOf(f)
	for i, j := range c.dots() {
		areas[c.colour(i, j)]++
	}
	return areas, api.OK
}

// Equal reports whether a and b have boxes of the same extent and the same colour at each dot.
func Equal(a, b api.Face) (bool, api.Errno) {
	if !Valid(a) || !Valid(b) {
		return false, api.ErrFace
	}
	c, d := canvasOf(a), canvasOf(b)
	if c.w != d.w || c.h != d.h {
		return false, api.OK
	}
	for i, j := range c.dots() {
		if c.colour(i, j) != d.colour(i, j) {
			return false, api.OK
		}
	}
	return true, api.OK
}

// Trim returns f without the items of which no dot is seen.
func Trim(f api.Face) (api.Face, api.Errno) {
	if !Valid(f) {
		return api.Face{}, api.ErrFace
	}
	trimmed := api.Face{Shape: f.Shape, Size: f.Size, Height: f.Height}
	seen := canvasOf(f).seen()
	for k, it := range f.Items {
		if seen[k] {
			trimmed.Items = append(trimmed.Items, it)
		}
	}
	return trimmed, api.OK
}

// Mirror reports whether f is the same seen in a mirror.
func Mirror(f api.Face) (bool, api.Errno) {
	if !Valid(f) {
		return false, api.ErrFace
	}
	c := canvasOf(f)
	for i, j := range c.dots() {
		if c.colour(i, j) != c.colour(c.w-1-i, j) {
			return false, api.OK
		}
	}
	return true, api.OK
}

// Screens returns the colours by which at least one dot of f is seen, in the order in which they are printed.
func Screens(f api.Face) ([]int, api.Errno) {
	areas, err := Areas(f)
	if err != api.OK {
		return nil, err
	}
	var screens []int
	for colour := api.White; colour <= api.Black; colour++ {
		if areas[colour] > 0 {
			screens = append(screens, colour)
		}
	}
	return screens, api.OK
}
