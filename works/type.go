package works

import (
	"slices"

	"blazon/api"
	"blazon/face"
)

// The limits of types that api does not name.
const (
	maxCode  = 1000000
	maxGrade = 3
)

// ValidType reports whether a type is valid.
func ValidType(t api.Type) bool {
	_, ok := faceOf(t)
	return ok
}

// faceOf returns the face of a type, and whether the type is valid.
func faceOf(t api.Type) (api.Face, bool) {
	if !between(t.Code, 1, maxCode) || !between(t.Grade, 1, maxGrade) || !dayValid(t.From) ||
		!between(t.To, t.From+1, api.MaxDay+1) {
		return api.Face{}, false
	}
	f, err := face.Parse(t.Text)
	if err != api.OK {
		return api.Face{}, false
	}
	_, ok := sheetColour(f)
	return f, ok
}

// sheetColour returns the colour of the sheet that a valid face is made of, and whether there is one: black is printed, and what is
// bare has no colour.
func sheetColour(f api.Face) (int, bool) {
	screens, _ := face.Screens(f)
	k := slices.IndexFunc(screens, func(colour int) bool { return colour != api.Black })
	if k < 0 {
		return 0, false
	}
	return screens[k], true
}

// Strips returns the widths of the strips of a type's face, from left to right.
func Strips(t api.Type, width int) ([]int, api.Errno) {
	f, ok := faceOf(t)
	if !ok {
		return nil, api.ErrType
	}
	if !widthValid(width) {
		return nil, api.ErrArg
	}
	return strips(f, width)
}

// strips is Strips for a face and a width that are valid.
func strips(f api.Face, width int) ([]int, api.Errno) {
	ends, err := face.Seams(f, width)
	if err != api.OK {
		return nil, err
	}
	w, _, _ := face.Extent(f)
	var widths []int
	begin := 0
	for _, end := range append(ends, w) {
		widths = append(widths, end-begin)
		begin = end
	}
	return widths, api.OK
}

// Need returns what sheet the face of a type needs.
func Need(t api.Type, width int) (api.Need, api.Errno) {
	f, ok := faceOf(t)
	if !ok {
		return api.Need{}, api.ErrType
	}
	if !widthValid(width) {
		return api.Need{}, api.ErrArg
	}
	widths, err := strips(f, width)
	if err != api.OK {
		return api.Need{}, err
	}
	_, h, _ := face.Extent(f)
	colour, _ := sheetColour(f)
	return api.Need{Grade: t.Grade, Colour: colour, Width: slices.Max(widths), Length: h, Count: len(widths)}, api.OK
}

func widthValid(width int) bool {
	return between(width, 1, api.MaxWidth)
}
