package face

import "blazon/api"

// figure is the shape of a face. Places are those of the document, X and Y, counted from the middle of the box, where a
// dot is two units wide.
type figure interface {
	// extent returns W and H of the box.
	extent() (w, h int)
	// within reports whether a dot of the box is a dot of the shape that a rim of this width leaves free. A rim of the
	// width 0 leaves all of them free, so that the same rule tells which dots belong to the shape.
	within(x, y, rim int) bool
}

type round struct{ size int }

type panel struct{ size, height int }

type diamond struct{ size int }

type octagon struct{ size int }

type up struct{ size int }

type down struct{ size int }

// figureOf returns the figure of a valid face.
func figureOf(f api.Face) figure {
	switch f.Shape {
	case api.ShapeRound:
		return round{f.Size}
	case api.ShapePanel:
		return panel{f.Size, f.Height}
	case api.ShapeDiamond:
		return diamond{f.Size}
	case api.ShapeOctagon:
		return octagon{f.Size}
	case api.ShapeUp:
		return up{f.Size}
	}
	return down{f.Size}
}

func (r round) extent() (w, h int) { return r.size, r.size }

func (r round) within(x, y, rim int) bool {
	inner := r.size - 2*rim
	return inner > 0 && x*x+y*y <= inner*inner
}

func (p panel) extent() (w, h int) { return p.size, p.height }

func (p panel) within(x, y, rim int) bool {
	return abs(x) < p.size-2*rim && abs(y) < p.height-2*rim
}

func (d diamond) extent() (w, h int) { return d.size, d.size }

func (d diamond) within(x, y, rim int) bool {
	return abs(x)+abs(y) <= d.size-3*rim
}

func (o octagon) extent() (w, h int) { return o.size, o.size }

func (o octagon) within(x, y, rim int) bool {
	inner := o.size - 2*rim
	return abs(x) < inner && abs(y) < inner && 29*(abs(x)+abs(y)) <= 41*inner
}

func (u up) extent() (w, h int) { return u.size, roundUp(13*u.size, 15) / 15 }

func (u up) within(x, y, rim int) bool {
	_, h := u.extent()
	return 2*h*(abs(x)+2*rim) <= u.size*(h-y) && y > 2*rim-h
}

func (d down) extent() (w, h int) { return up{d.size}.extent() }

func (d down) within(x, y, rim int) bool { return up{d.size}.within(x, -y, rim) }

// roundUp returns the least multiple of step that is at least n, for n from 0 on.
func roundUp(n, step int) int {
	return (n + step - 1) / step * step
}

func abs(n int) int {
	if n < 0 {
		return -n
	}
	return n
}
