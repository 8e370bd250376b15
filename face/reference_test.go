package face_test

import (
	"math/rand/v2"
	"strconv"
	"strings"
	"testing"

	"blazon/api"
	"blazon/face"
)

// The tests hold the package against a second way to the same results: a grid that is painted item by item, with the
// document's formulas written out once more.

// grid has for each dot, row by row from below, its colour and, for the dots of the shape, the index of the item that
// is seen (-1: none).
type grid struct {
	w, h   int
	colour [][]int
	item   [][]int
}

func absolute(n int) int {
	return max(n, -n)
}

func boxOf(f api.Face) (w, h int) {
	switch f.Shape {
	case api.ShapePanel:
		return f.Size, f.Height
	case api.ShapeUp, api.ShapeDown:
		h = 0
		for 15*h < 13*f.Size {
			h++
		}
		return f.Size, h
	}
	return f.Size, f.Size
}

func belongs(f api.Face, x, y int) bool {
	_, h := boxOf(f)
	ax, ay := absolute(x), absolute(y)
	switch f.Shape {
	case api.ShapeRound:
		return x*x+y*y <= f.Size*f.Size
	case api.ShapePanel:
		return true
	case api.ShapeDiamond:
		return ax+ay <= f.Size
	case api.ShapeOctagon:
		return 29*(ax+ay) <= 41*f.Size
	case api.ShapeUp:
		return 2*h*ax <= f.Size*(h-y)
	}
	return 2*h*ax <= f.Size*(h+y)
}

func inRim(f api.Face, x, y, b int) bool {
	w, h := boxOf(f)
	ax, ay := absolute(x), absolute(y)
	switch f.Shape {
	case api.ShapeRound:
		return !(f.Size-2*b > 0 && x*x+y*y <= (f.Size-2*b)*(f.Size-2*b))
	case api.ShapePanel:
		return !(ax < w-2*b && ay < h-2*b)
	case api.ShapeDiamond:
		return !(ax+ay <= f.Size-3*b)
	case api.ShapeOctagon:
		return !(ax < f.Size-2*b && ay < f.Size-2*b && 29*(ax+ay) <= 41*(f.Size-2*b))
	case api.ShapeUp:
		return !(2*h*(ax+2*b) <= f.Size*(h-y) && y > 2*b-h)
	}
	return !(2*h*(ax+2*b) <= f.Size*(h+y) && y < h-2*b)
}

const letterTable = `0 0E 11 13 15 19 11 0E
1 04 0C 04 04 04 04 0E
2 0E 11 01 02 04 08 1F
3 1F 02 04 02 01 11 0E
4 02 06 0A 12 1F 02 02
5 1F 10 1E 01 01 11 0E
6 06 08 10 1E 11 11 0E
7 1F 01 02 04 08 08 08
8 0E 11 11 0E 11 11 0E
9 0E 11 11 0F 01 02 0C
A 0E 11 11 11 1F 11 11
B 1E 11 11 1E 11 11 1E
C 0E 11 10 10 10 11 0E
D 1C 12 11 11 11 12 1C
E 1F 10 10 1E 10 10 1F
F 1F 10 10 1E 10 10 10
G 0E 11 10 17 11 11 0F
H 11 11 11 1F 11 11 11
I 0E 04 04 04 04 04 0E
J 07 02 02 02 02 12 0C
K 11 12 14 18 14 12 11
L 10 10 10 10 10 10 1F
M 11 1B 15 15 11 11 11
N 11 11 19 15 13 11 11
O 0E 11 11 11 11 11 0E
P 1E 11 11 1E 10 10 10
Q 0E 11 11 11 15 12 0D
R 1E 11 11 1E 14 12 11
S 0F 10 10 0E 01 01 1E
T 1F 04 04 04 04 04 04
U 11 11 11 11 11 11 0E
V 11 11 11 11 11 0A 04
W 11 11 11 15 15 15 0A
X 11 11 0A 04 0A 11 11
Y 11 11 11 0A 04 04 04
Z 1F 01 02 04 08 10 1F`

// rowsOfLetters returns the table of letters, with the space.
func rowsOfLetters() map[byte][7]int {
	table := map[byte][7]int{' ': {}}
	for line := range strings.SplitSeq(letterTable, "\n") {
		words := strings.Fields(line)
		var rows [7]int
		for n := range rows {
			row, _ := strconv.ParseInt(words[n+1], 16, 0)
			rows[n] = int(row)
		}
		table[words[0][0]] = rows
	}
	return table
}

var letterRows = rowsOfLetters()

// textDots returns the dots of a text that is an item.
func textDots(it api.Item) map[[2]int]bool {
	dots := map[[2]int]bool{}
	for k := range len(it.Text) {
		for n, row := range letterRows[it.Text[k]] {
			for column := range 5 {
				if row&(1<<(4-column)) == 0 {
					continue
				}
				for i := range it.A {
					for j := range it.A {
						dots[[2]int{it.Left + 6*it.A*k + column*it.A + i, it.Low + (6-n)*it.A + j}] = true
					}
				}
			}
		}
	}
	return dots
}

// painter returns which dots an item paints, if they belong to the shape.
func painter(f api.Face, it api.Item) func(i, j int) bool {
	w, h := boxOf(f)
	switch it.Kind {
	case api.ItemField:
		return func(i, j int) bool { return true }
	case api.ItemRim:
		return func(i, j int) bool { return inRim(f, 2*i+1-w, 2*j+1-h, it.A) }
	case api.ItemBox:
		return func(i, j int) bool {
			return it.Left <= i && i < it.Left+it.A && it.Low <= j && j < it.Low+it.B
		}
	case api.ItemDisc:
		return func(i, j int) bool {
			x, y := 2*(i-it.Left)+1-it.A, 2*(j-it.Low)+1-it.A
			return x*x+y*y <= it.A*it.A
		}
	case api.ItemSlash:
		return func(i, j int) bool {
			x, y := 2*i+1-w, 2*j+1-h
			return 2*absolute(x*h-y*w) <= it.A*(w+h)
		}
	}
	dots := textDots(it)
	return func(i, j int) bool { return dots[[2]int{i, j}] }
}

// painted returns the grid of a valid face.
func painted(f api.Face) grid {
	w, h := boxOf(f)
	g := grid{w: w, h: h}
	for range h {
		g.colour = append(g.colour, make([]int, w))
		g.item = append(g.item, make([]int, w))
	}
	g.paint(f, -1, api.Bare, func(i, j int) bool { return true })
	for n, it := range f.Items {
		g.paint(f, n, it.Colour, painter(f, it))
	}
	return g
}

// paint lays an item over those in front of it; dots that do not belong to the shape keep the colour 0.
func (g grid) paint(f api.Face, item, colour int, paints func(i, j int) bool) {
	for j := range g.h {
		for i := range g.w {
			if belongs(f, 2*i+1-g.w, 2*j+1-g.h) && paints(i, j) {
				g.colour[j][i], g.item[j][i] = colour, item
			}
		}
	}
}

// seenItems returns which items of a face are seen.
func (g grid) seenItems() map[int]bool {
	seen := map[int]bool{}
	for j := range g.h {
		for i := range g.w {
			if g.colour[j][i] != 0 {
				seen[g.item[j][i]] = true
			}
		}
	}
	return seen
}

func (g grid) areas() [10]int {
	var areas [10]int
	for j := range g.h {
		for i := range g.w {
			areas[g.colour[j][i]]++
		}
	}
	return areas
}

const spelling = " 0123456789ABCDEFGHIJKLMNOPQRSTUVWXYZ"

// someText returns a text of at most so many letters.
func someText(r *rand.Rand, most int) string {
	var b strings.Builder
	for range 1 + r.IntN(most) {
		b.WriteByte(spelling[r.IntN(len(spelling))])
	}
	return b.String()
}

// someItem returns a valid item that is mostly in a box of this size.
func someItem(r *rand.Rand, size int) api.Item {
	it := api.Item{Kind: 1 + r.IntN(6), Colour: 1 + r.IntN(8)}
	if it.Kind == api.ItemField && r.IntN(3) > 0 {
		it.Kind = api.ItemBox
	}
	switch it.Kind {
	case api.ItemRim, api.ItemSlash:
		it.A = 1 + r.IntN(1+size/4)
	case api.ItemBox:
		it.A, it.B = 1+r.IntN(size), 1+r.IntN(size)
	case api.ItemDisc:
		it.A = 1 + r.IntN(size)
	case api.ItemText:
		it.A, it.Text = 1+r.IntN(1+size/20), someText(r, 6)
	}
	if it.Kind == api.ItemBox || it.Kind == api.ItemDisc || it.Kind == api.ItemText {
		it.Left, it.Low = r.IntN(size+2), r.IntN(size+2)
	}
	return it
}

// someFace returns a valid face whose sides are at most most dots long.
func someFace(r *rand.Rand, most int) api.Face {
	f := api.Face{Shape: 1 + r.IntN(6), Size: 4 + r.IntN(most-3)}
	if f.Shape == api.ShapePanel {
		f.Height = 4 + r.IntN(most-3)
	}
	for range r.IntN(7) {
		f.Items = append(f.Items, someItem(r, f.Size))
	}
	return f
}

// someFaces returns valid faces of all shapes, small ones and some of the greatest size, always the same.
func someFaces() []api.Face {
	r := rand.New(rand.NewPCG(1, 2))
	var faces []api.Face
	for range 300 {
		faces = append(faces, someFace(r, 40))
	}
	for shape := api.ShapeRound; shape <= api.ShapeDown; shape++ {
		f := api.Face{Shape: shape, Size: api.MaxFace}
		if shape == api.ShapePanel {
			f.Height = api.MaxFace - 1
		}
		for range 5 {
			f.Items = append(f.Items, someItem(r, f.Size))
		}
		faces = append(faces, f)
	}
	return faces
}

// must fails the test if a call that has to be right returns an error.
func must(t *testing.T, call string, err api.Errno) {
	t.Helper()
	if err != api.OK {
		t.Fatalf("%s: error %d", call, err)
	}
}

// read returns the face of a text.
func read(t *testing.T, text string) api.Face {
	t.Helper()
	f, err := face.Parse(text)
	must(t, "Parse of "+text, err)
	return f
}

// write returns the text of a face.
func write(t *testing.T, f api.Face) string {
	t.Helper()
	text, err := face.Format(f)
	must(t, "Format", err)
	return text
}
