package face

import (
	"strconv"
	"strings"

	"blazon/api"
)

// shapeNames have the numbers of api's shapes as their indexes, colourNames those of its colours.
var (
	shapeNames  = [7]string{"", "round", "panel", "diamond", "octagon", "up", "down"}
	colourNames = [9]string{"", "white", "yellow", "orange", "red", "green", "blue", "brown", "black"}
)

func shapeName(shape int) string { return shapeNames[shape] }

func colourName(colour int) string { return colourNames[colour] }

func kindName(kind int) string { return kinds[kind].name }

// Format returns the text of f.
func Format(f api.Face) (string, api.Errno) {
	if !Valid(f) {
		return "", api.ErrFace
	}
	head := shapeName(f.Shape) + " " + strconv.Itoa(f.Size)
	if f.Shape == api.ShapePanel {
		head += " " + strconv.Itoa(f.Height)
	}
	if len(f.Items) == 0 {
		return head, api.OK
	}
	var list []string
	for _, it := range f.Items {
		list = append(list, itemText(it))
	}
	return head + ": " + strings.Join(list, "; "), api.OK
}

func itemText(it api.Item) string {
	k := kinds[it.Kind]
	words := []string{k.name, colourName(it.Colour)}
	if k.sizes > 0 {
		words = append(words, strconv.Itoa(it.A))
	}
	if k.sizes > 1 {
		words = append(words, strconv.Itoa(it.B))
	}
	if k.text {
		words = append(words, `"`+it.Text+`"`)
	}
	if k.place {
		words = append(words, "at", strconv.Itoa(it.Left), strconv.Itoa(it.Low))
	}
	return strings.Join(words, " ")
}

// Parse returns the valid face whose text this is. Letters are capitals, digits and spaces: so what parts a text, its
// items and their places (": ", "; ", " at ") does not occur within quotes.
func Parse(text string) (api.Face, api.Errno) {
	head, list, more := strings.Cut(text, ": ")
	f, ok := readHead(head)
	if !ok {
		return api.Face{}, api.ErrForm
	}
	for more {
		var part string
		part, list, more = strings.Cut(list, "; ")
		it, ok := readItem(part)
		if !ok || len(f.Items) == api.MaxItems {
			return api.Face{}, api.ErrForm
		}
		f.Items = append(f.Items, it)
	}
	if !Valid(f) {
		return api.Face{}, api.ErrForm
	}
	return f, api.OK
}

// readHead reads the shape of a face, whose numbers may be out of range.
func readHead(head string) (f api.Face, ok bool) {
	name, sizes, _ := strings.Cut(head, " ")
	f.Shape, ok = numbered(name, api.ShapeDown, shapeName)
	if !ok {
		return api.Face{}, false
	}
	if f.Shape == api.ShapePanel {
		ok = readNumbers(sizes, &f.Size, &f.Height)
	} else {
		ok = readNumbers(sizes, &f.Size)
	}
	return f, ok
}

// readItem reads an item, whose numbers and letters may be out of range.
func readItem(part string) (it api.Item, ok bool) {
	name, rest, _ := strings.Cut(part, " ")
	it.Kind, ok = numbered(name, api.ItemText, kindName)
	if !ok {
		return api.Item{}, false
	}
	k := kinds[it.Kind]
	rest, place, placed := strings.Cut(rest, " at ")
	if placed != k.place || placed && !readNumbers(place, &it.Left, &it.Low) {
		return api.Item{}, false
	}
	if k.text {
		rest, it.Text, ok = cutQuoted(rest)
	}
	colour, sizes, sized := strings.Cut(rest, " ")
	places := []*int{&it.A, &it.B}[:k.sizes]
	if !ok || sized != (k.sizes > 0) || sized && !readNumbers(sizes, places...) {
		return api.Item{}, false
	}
	it.Colour, ok = numbered(colour, api.Black, colourName)
	return it, ok
}

// cutQuoted parts a quoted text from what stands in front of it.
func cutQuoted(s string) (front, quoted string, ok bool) {
	front, quoted, opened := strings.Cut(s, ` "`)
	quoted, closed := strings.CutSuffix(quoted, `"`)
	return front, quoted, opened && closed
}

// numbered returns the number from 1 to last that has this name.
func numbered(word string, last int, name func(int) string) (int, bool) {
	for n := 1; n <= last; n++ {
		if name(n) == word {
			return n, true
		}
	}
	return 0, false
}

// readNumbers reads exactly as many numbers as there are places for them, with single spaces between them.
func readNumbers(text string, places ...*int) bool {
	words := strings.SplitN(text, " ", len(places)+1)
	if len(words) != len(places) {
		return false
	}
	for n, word := range words {
		number, err := strconv.Atoi(word)
		// Atoi also reads signs and leading zeros; a negative number is out of every range.
		if err != nil || strconv.Itoa(number) != word {
			return false
		}
		*places[n] = number
	}
	return true
}
