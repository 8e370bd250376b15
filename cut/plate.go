package cut

import (
	"slices"

	"blazon/api"
)

// The limits that api does not name: of the kinds of pieces, and of places that are compared.
const (
	maxKinds  = 26
	maxPlaces = 1000
)

// Places returns where the pieces of a text lie on a plate.
func Places(text string, w, h, kerf int, kinds []api.Kind) ([]api.Place, api.Errno) {
	if !plateValid(w, h, kerf) {
		return nil, api.ErrArg
	}
	t, err := known(text, kinds)
	if err != api.OK {
		return nil, err
	}
	var places []api.Place
	small := false
	if !lay(t, rect{w: w, h: h}, kerf, func(piece byte, r rect) {
		k := kinds[piece-'a']
		small = small || k.W > r.w || k.H > r.h
		places = append(places, api.Place{Piece: piece, X: r.x, Y: r.y, W: k.W, H: k.H})
	}) {
		return nil, api.ErrPlace
	}
	if small {
		return nil, api.ErrSmall
	}
	return places, api.OK
}

// Used returns how many pieces of each kind a text has.
func Used(text string, kinds []api.Kind) ([]int, api.Errno) {
	t, err := known(text, kinds)
	if err != api.OK {
		return nil, err
	}
	used := make([]int, len(kinds))
	each(t, func(piece byte) { used[piece-'a']++ })
	return used, api.OK
}

// plateValid reports whether a plate and a kerf are within their limits.
func plateValid(w, h, kerf int) bool {
	return between(w, 1, api.MaxPlate) && between(h, 1, api.MaxPlate) && between(kerf, 0, maxKerf)
}

// known returns the tree of a text whose pieces all have their kinds.
func known(text string, kinds []api.Kind) (api.Cut, api.Errno) {
	if len(kinds) > maxKinds || slices.ContainsFunc(kinds, func(k api.Kind) bool {
		return !between(k.W, 1, api.MaxPlate) || !between(k.H, 1, api.MaxPlate)
	}) {
		return api.Cut{}, api.ErrArg
	}
	t, err := Parse(text)
	if err != api.OK {
		return api.Cut{}, err
	}
	unknown := false
	each(t, func(piece byte) { unknown = unknown || int(piece-'a') >= len(kinds) })
	if unknown {
		return api.Cut{}, api.ErrPlace
	}
	return t, api.OK
}

// each calls look with the letters of a tree, in their order in its text.
func each(t api.Cut, look func(piece byte)) {
	if t.Op == api.CutPiece {
		look(t.Piece)
	}
	for _, part := range t.Parts {
		each(part, look)
	}
}

// rect is a rectangle of a plate, with its lower left corner.
type rect struct {
	x, y, w, h int
}

// lay cuts a rectangle as a tree says, and calls put with each letter and its rectangle, in their order in the text. It
// reports whether there was enough for all parts, and stops where there is not.
func lay(t api.Cut, r rect, kerf int, put func(piece byte, r rect)) bool {
	if r.w < 1 || r.h < 1 {
		return false
	}
	a, b := r, r
	switch t.Op {
	case api.CutPiece:
		put(t.Piece, r)
		return true
	case api.CutH:
		a.h = t.N
		b.y, b.h = r.y+t.N+kerf, r.h-t.N-kerf
	case api.CutV:
		a.w = t.N
		b.x, b.w = r.x+t.N+kerf, r.w-t.N-kerf
	default:
		return true
	}
	return lay(t.Parts[0], a, kerf, put) && lay(t.Parts[1], b, kerf, put)
}

// Clash reports whether a place is not within the plate, or two places are nearer to each other than a kerf.
func Clash(places []api.Place, w, h, kerf int) (bool, api.Errno) {
	if !plateValid(w, h, kerf) || len(places) > maxPlaces ||
		slices.ContainsFunc(places, func(p api.Place) bool { return !placeValid(p) }) {
		return false, api.ErrArg
	}
	for i, p := range places {
		if p.X+p.W > w || p.Y+p.H > h {
			return true, api.OK
		}
		if slices.ContainsFunc(places[:i], func(q api.Place) bool { return !apart(p, q, kerf) }) {
			return true, api.OK
		}
	}
	return false, api.OK
}

func placeValid(p api.Place) bool {
	return between(p.W, 1, api.MaxPlate) && between(p.H, 1, api.MaxPlate) &&
		between(p.X, 0, api.MaxPlate) && between(p.Y, 0, api.MaxPlate)
}

// apart reports whether one of two places lies at least a kerf to the left of the other one, or below it.
func apart(p, q api.Place, kerf int) bool {
	return p.X+p.W+kerf <= q.X || q.X+q.W+kerf <= p.X || p.Y+p.H+kerf <= q.Y || q.Y+q.H+kerf <= p.Y
}
