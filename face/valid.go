package face

import "blazon/api"

// minSize is the least Size of a face, and the least Height of a panel.
const minSize = 4

// kind says how an item is written and which of its fields it uses: sizes is 1 for A, and 2 for A and B.
type kind struct {
	name        string
	sizes       int
	text, place bool
}

// kinds have the numbers of api's kinds of items as their indexes.
var kinds = [7]kind{
	api.ItemField: {name: "field"},
	api.ItemRim:   {name: "rim", sizes: 1},
	api.ItemBox:   {name: "box", sizes: 2, place: true},
	api.ItemDisc:  {name: "disc", sizes: 1, place: true},
	api.ItemSlash: {name: "slash", sizes: 1},
	api.ItemText:  {name: "text", sizes: 1, text: true, place: true},
}

// Valid reports whether f is a valid face.
func Valid(f api.Face) bool {
	if !between(f.Shape, api.ShapeRound, api.ShapeDown) || !between(f.Size, minSize, api.MaxFace) {
		return false
	}
	if !fieldValid(f.Height, f.Shape == api.ShapePanel, minSize) || len(f.Items) > api.MaxItems {
		return false
	}
	for _, it := range f.Items {
		if !itemValid(it) {
			return false
		}
	}
	return true
}

func itemValid(it api.Item) bool {
	if !between(it.Kind, api.ItemField, api.ItemText) || !colourValid(it.Colour) {
		return false
	}
	k := kinds[it.Kind]
	if !fieldValid(it.A, k.sizes > 0, 1) || !fieldValid(it.B, k.sizes > 1, 1) {
		return false
	}
	if !fieldValid(it.Left, k.place, 0) || !fieldValid(it.Low, k.place, 0) {
		return false
	}
	if k.text {
		return spells(it.Text)
	}
	return it.Text == ""
}

// fieldValid reports whether a field is in its range, or zero where it is not used: otherwise one text would stand for
// several faces.
func fieldValid(n int, used bool, least int) bool {
	if used {
		return between(n, least, api.MaxFace)
	}
	return n == 0
}

func colourValid(colour int) bool {
	return between(colour, api.White, api.Black)
}

func between(n, least, most int) bool {
	return least <= n && n <= most
}
