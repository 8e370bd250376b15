package light

import "blazon/api"

// maxColour is the greatest coordinate of a colour.
const maxColour = 10000

// Inside reports whether the colour p lies in a box or on its sides.
func Inside(box [4]api.XY, p api.XY) (bool, api.Errno) {
	if !boxValid(box) || !colourValid(p) {
		return false, api.ErrArg
	}
	for k := range box {
		if turn(box[k], box[(k+1)%4], p) < 0 {
			return false, api.OK
		}
	}
	return true, api.OK
}

// boxValid reports whether the corners of a box are colours and turn left at each corner. Each turn is less than half a
// circle, so that the way around turns only once: the box is convex, and its inside is what lies left of all its sides.
func boxValid(box [4]api.XY) bool {
	for _, corner := range box {
		if !colourValid(corner) {
			return false
		}
	}
	for k := range box {
		if turn(box[k], box[(k+1)%4], box[(k+2)%4]) <= 0 {
			return false
		}
	}
	return true
}

// turn returns the product (b - a) x (c - b), which is greater than 0 if the way from a over b to c turns left.
func turn(a, b, c api.XY) int {
	return (b.X-a.X)*(c.Y-b.Y) - (b.Y-a.Y)*(c.X-b.X)
}

func colourValid(p api.XY) bool {
	return between(p.X, 0, maxColour) && between(p.Y, 0, maxColour)
}
