package face_test

import (
	"math"
	"slices"
	"testing"

	"blazon/api"
	"blazon/face"
)

// shown returns a face as a picture, a letter for the colour of each dot, the uppermost row first.
func shown(t *testing.T, f api.Face) []string {
	t.Helper()
	w, h, err := face.Extent(f)
	must(t, "Extent", err)
	var rows []string
	for j := h - 1; j >= 0; j-- {
		row := ""
		for i := range w {
			colour, err := face.At(f, i, j)
			must(t, "At", err)
			row += string(".WYORGUNB-"[colour])
		}
		rows = append(rows, row)
	}
	return rows
}

// P1.4: the shapes, rims and items, as pictures.
func TestPictures(t *testing.T) {
	for text, want := range map[string][]string{
		"round 6: rim red 1": {
			".RRRR.",
			"RR--RR",
			"R----R",
			"R----R",
			"RR--RR",
			".RRRR."},
		"panel 6 4: rim red 1": {
			"RRRRRR",
			"R----R",
			"R----R",
			"RRRRRR"},
		"diamond 7: rim red 1": {
			"...R...",
			"..R-R..",
			".R---R.",
			"R-----R",
			".R---R.",
			"..R-R..",
			"...R..."},
		"octagon 7: rim red 1": {
			"..RRR..",
			".R---R.",
			"R-----R",
			"R-----R",
			"R-----R",
			".R---R.",
			"..RRR.."},
		"up 8: rim red 1": {
			"........",
			"...RR...",
			"...RR...",
			"..R--R..",
			".R----R.",
			".R----R.",
			"RRRRRRRR"},
		"down 8: rim red 1": {
			"RRRRRRRR",
			".R----R.",
			".R----R.",
			"..R--R..",
			"...RR...",
			"...RR...",
			"........"},
		"panel 5 4: field white; box red 2 1 at 1 2": {
			"WWWWW",
			"WRRWW",
			"WWWWW",
			"WWWWW"},
		"panel 6 5: disc blue 4 at 2 0": {
			"------",
			"---UU-",
			"--UUUU",
			"--UUUU",
			"---UU-"},
		"panel 8 4: slash green 1": {
			"------GG",
			"----GG--",
			"--GG----",
			"GG------"},
		`panel 12 8: text black 1 "R1" at 1 1`: {
			"-BBBB----B--",
			"-B---B--BB--",
			"-B---B---B--",
			"-BBBB----B--",
			"-B-B-----B--",
			"-B--B----B--",
			"-B---B--BBB-",
			"------------"},
		`panel 4 4: text brown 2 "F" at 1 0; text yellow 1 " L" at 0 3`: {
			"-NN-",
			"-NN-",
			"-NN-",
			"-NN-"},
		"panel 4 4: field orange; box white 200 200 at 3 3": {
			"OOOW",
			"OOOO",
			"OOOO",
			"OOOO"},
	} {
		if got := shown(t, read(t, text)); !slices.Equal(got, want) {
			t.Errorf("%s:", text)
			for n := range max(len(got), len(want)) {
				t.Errorf("%s", at(got, n)+"   "+at(want, n))
			}
		}
	}
}

// at returns a line of a picture, or an empty one.
func at(picture []string, n int) string {
	if n < len(picture) {
		return picture[n]
	}
	return ""
}

// P1.4: At.
func TestAt(t *testing.T) {
	stop := read(t, "round 60: field white; rim red 8")
	for _, c := range [][3]int{
		{30, 30, api.White}, {0, 30, api.Red}, {59, 30, api.Red}, {30, 0, api.Red}, {30, 59, api.Red}, {0, 0, 0}, {59, 59, 0},
		{60, 30, 0}, {-1, 30, 0}, {30, 60, 0}, {30, -1, 0}, {math.MaxInt, 30, 0}, {30, math.MinInt, 0}, {math.MinInt, math.MaxInt, 0},
	} {
		if colour, err := face.At(stop, c[0], c[1]); colour != c[2] || err != api.OK {
			t.Errorf("At(%d, %d): %d, error %d", c[0], c[1], colour, err)
		}
	}
	field := read(t, "panel 4 4: field red; box blue 200 200 at 0 0")
	for _, c := range [][2]int{{-1, 0}, {0, -1}, {4, 0}, {0, 4}, {math.MaxInt, 0}, {0, math.MaxInt}, {math.MinInt, 0}, {1 << 62, 1}, {1, 1 << 63 / 2}} {
		if colour, err := face.At(field, c[0], c[1]); colour != 0 || err != api.OK {
			t.Errorf("At(%d, %d) outside of the box: %d, error %d", c[0], c[1], colour, err)
		}
	}
	for _, f := range someFaces() {
		g := painted(f)
		for i := range g.w {
			for j := range g.h {
				if colour, err := face.At(f, i, j); colour != g.colour[j][i] || err != api.OK {
					t.Fatalf("At(%d, %d) of %s: %d, error %d; the grid has %d", i, j, write(t, f), colour, err, g.colour[j][i])
				}
			}
		}
	}
}

// runsOf returns a row of a grid as runs.
func runsOf(row []int) []api.Run {
	var runs []api.Run
	for i := 0; i < len(row); {
		end := i
		for end < len(row) && row[end] == row[i] {
			end++
		}
		if row[i] != 0 {
			runs = append(runs, api.Run{From: i, Count: end - i, Colour: row[i]})
		}
		i = end
	}
	return runs
}

// P1.4: Row.
func TestRow(t *testing.T) {
	p := read(t, "panel 8 4: box red 3 2 at 1 1; box red 2 1 at 3 2; box blue 1 4 at 2 0")
	want := []api.Run{{From: 0, Count: 1, Colour: api.Bare}, {From: 1, Count: 1, Colour: api.Red}, {From: 2, Count: 1, Colour: api.Blue},
		{From: 3, Count: 2, Colour: api.Red}, {From: 5, Count: 3, Colour: api.Bare}}
	if runs, err := face.Row(p, 2); err != api.OK || !slices.Equal(runs, want) {
		t.Errorf("Row: %v, error %d", runs, err)
	}
	if runs, err := face.Row(read(t, "diamond 5"), 4); err != api.OK || !slices.Equal(runs, []api.Run{{From: 2, Count: 1, Colour: api.Bare}}) {
		t.Errorf("Row of a diamond: %v, error %d", runs, err)
	}
	for _, j := range []int{-1, 4, 5, math.MaxInt, math.MinInt} {
		if runs, err := face.Row(p, j); err != api.ErrArg || len(runs) != 0 {
			t.Errorf("Row %d: %v, error %d", j, runs, err)
		}
	}
	for _, f := range someFaces() {
		g := painted(f)
		for j := range g.h {
			if runs, err := face.Row(f, j); err != api.OK || !slices.Equal(runs, runsOf(g.colour[j])) {
				t.Fatalf("Row %d of %s: %v, error %d", j, write(t, f), runs, err)
			}
		}
		if _, err := face.Row(f, g.h); err != api.ErrArg {
			t.Fatalf("Row %d of %s: error %d", g.h, write(t, f), err)
		}
	}
}

// P1.4: Areas.
func TestAreas(t *testing.T) {
	for text, want := range map[string][10]int{
		"panel 5 4":              {api.Bare: 20},
		"round 6":                {0: 4, api.Bare: 32},
		"panel 5 4: field black": {api.Black: 20},
		"round 6: box red 2 1 at 0 0; box white 2 2 at 2 2; box green 1 1 at 50 0": {0: 4, api.Red: 1, api.White: 4, api.Bare: 27},
	} {
		if areas, err := face.Areas(read(t, text)); areas != want || err != api.OK {
			t.Errorf("Areas of %s: %v, error %d", text, areas, err)
		}
	}
	for _, f := range someFaces() {
		if areas, err := face.Areas(f); areas != painted(f).areas() || err != api.OK {
			t.Fatalf("Areas of %s: %v, error %d", write(t, f), areas, err)
		}
	}
}

// P1.4: the shapes of all sizes, and rims up to those that leave no dot free.
func TestShapes(t *testing.T) {
	for shape := api.ShapeRound; shape <= api.ShapeDown; shape++ {
		for size := 4; size <= api.MaxFace; size++ {
			rims := []int{1 + size/20, size / 2, (size + 1) / 2}
			for b := 1; size <= 20 && b <= size; b++ {
				rims = append(rims, b)
			}
			for _, b := range rims {
				f := api.Face{Shape: shape, Size: size, Items: []api.Item{{Kind: api.ItemRim, Colour: api.Red, A: b}}}
				if shape == api.ShapePanel {
					f.Height = 4 + (7*size+b)%40
				}
				if areas, err := face.Areas(f); areas != painted(f).areas() || err != api.OK {
					t.Errorf("Areas of %s: %v, error %d", write(t, f), areas, err)
				}
			}
		}
	}
}

// P1.5: Equal.
func TestEqual(t *testing.T) {
	for _, c := range []struct {
		a, b string
		is   bool
	}{
		{"round 60", "round 60", true},
		{"round 4", "octagon 4", true}, // other shapes with the same dots
		{"round 4", "diamond 4", true},
		{"panel 4 4", "round 4", false},
		{"panel 6 4", "panel 4 6", false},
		{"panel 6 4", "panel 6 5", false},
		{"panel 6 4", "panel 5 4", false},
		{"up 15", "down 15", false},
		{"round 60: field white", "round 60", false},
		{"round 60: field white; field red", "round 60: field red", true},
		{"panel 9 9: rim red 5", "panel 9 9: field red", true},
		{"panel 9 9: rim red 4", "panel 9 9: field red", false},
		{"panel 9 9: rim red 4; box red 1 1 at 4 4", "panel 9 9: field red", true},
		{"panel 9 9: box red 1 1 at 9 0", "panel 9 9", true},
		{"panel 9 9: box red 1 1 at 8 8", "panel 9 9", false},
		{"panel 9 9: box red 1 1 at 0 0", "panel 9 9", false},
		{"round 60: box red 1 1 at 0 0", "round 60", true}, // no dot of the shape
		{"panel 9 9: box red 3 3 at 1 1", "panel 9 9: disc red 3 at 1 1", true},
		{`panel 9 9: text red 1 "  " at 1 1`, "panel 9 9", true},
	} {
		for _, pair := range [][2]string{{c.a, c.b}, {c.b, c.a}} {
			if is, err := face.Equal(read(t, pair[0]), read(t, pair[1])); is != c.is || err != api.OK {
				t.Errorf("Equal of %s and %s: %v, error %d", pair[0], pair[1], is, err)
			}
		}
	}
}

// P1.5: Trim.
func TestTrim(t *testing.T) {
	for text, want := range map[string]string{
		"round 60": "round 60",
		"panel 10 10: rim red 2; field white; disc blue 4 at 3 3; box black 4 4 at 3 3; box green 2 2 at 50 50": "panel 10 10: field white; box black 4 4 at 3 3",
		"panel 10 10: field red; field red":                                                  "panel 10 10: field red",
		"panel 10 10: rim red 1; field red":                                                  "panel 10 10: field red",
		"panel 10 10: field red; rim red 1":                                                  "panel 10 10: field red; rim red 1",
		"panel 10 10: field red; rim red 5":                                                  "panel 10 10: rim red 5",
		"panel 10 10: field red; rim red 4":                                                  "panel 10 10: field red; rim red 4",
		"round 60: box red 9 9 at 0 0":                                                       "round 60", // outside of the shape
		"round 60: box red 9 10 at 0 0":                                                      "round 60: box red 9 10 at 0 0",
		"panel 9 9: box red 1 1 at 9 8":                                                      "panel 9 9", // outside of the box
		"panel 9 9: box red 1 1 at 8 8":                                                      "panel 9 9: box red 1 1 at 8 8",
		"panel 9 9: box red 2 1 at 0 0; box blue 1 1 at 0 0; box green 1 1 at 1 0":           "panel 9 9: box blue 1 1 at 0 0; box green 1 1 at 1 0", // hidden by two together
		"panel 9 9: box red 3 1 at 0 0; box blue 1 1 at 0 0; box green 1 1 at 1 0":           "panel 9 9: box red 3 1 at 0 0; box blue 1 1 at 0 0; box green 1 1 at 1 0",
		"panel 9 9: box red 1 1 at 0 0; box blue 2 1 at 0 0; box green 2 1 at 0 0":           "panel 9 9: box green 2 1 at 0 0", // hidden by one that is hidden
		"panel 9 9: text red 1 \"  \" at 1 1":                                                "panel 9 9",                       // a text without squares
		"panel 20 9: box red 5 7 at 1 1; text red 1 \"H\" at 1 1":                            "panel 20 9: box red 5 7 at 1 1; text red 1 \"H\" at 1 1",
		"panel 20 9: text red 1 \"H\" at 1 1; box red 5 7 at 1 1":                            "panel 20 9: box red 5 7 at 1 1",
		"panel 20 9: text red 1 \"HI\" at 1 1; box red 5 7 at 1 1":                           "panel 20 9: text red 1 \"HI\" at 1 1; box red 5 7 at 1 1",
		"up 9: field white; field white; rim black 1; rim black 1; slash red 1; rim black 1": "up 9: field white; slash red 1; rim black 1",
	} {
		f := read(t, text)
		g, err := face.Trim(f)
		if err != api.OK || write(t, g) != want {
			t.Errorf("Trim of %s: %v, error %d", text, g, err)
		}
	}
	for _, f := range someFaces() {
		var items []api.Item
		seen := painted(f).seenItems()
		for n, it := range f.Items {
			if seen[n] {
				items = append(items, it)
			}
		}
		g, err := face.Trim(f)
		if err != api.OK || !same(g, api.Face{Shape: f.Shape, Size: f.Size, Height: f.Height, Items: items}) {
			t.Fatalf("Trim of %s: %v, error %d", write(t, f), g, err)
		}
	}
}

// P1.5: Mirror.
func TestMirror(t *testing.T) {
	for text, want := range map[string]bool{
		"round 20":              true,
		"round 20: slash red 2": false,
		"panel 9 5: rim red 1; box blue 3 1 at 3 0":            true,
		"panel 9 5: rim red 1; box blue 3 1 at 2 0":            false,
		"panel 9 5: box blue 1 1 at 0 0":                       false,
		"panel 9 5: box blue 1 1 at 8 4":                       false,
		"panel 9 5: box blue 1 1 at 4 4":                       true,
		"panel 9 5: box blue 9 1 at 0 0":                       true, // not the same upside down
		"panel 9 5: box red 1 5 at 0 0; box red 1 5 at 8 0":    true,
		"panel 9 5: box red 1 5 at 0 0; box orange 1 5 at 8 0": false,
		"panel 9 5: box red 1 5 at 1 0; box red 1 5 at 7 0":    true,
		"panel 10 5: box red 1 5 at 4 0":                       false, // beside the middle
		"panel 10 5: box red 2 5 at 4 0":                       true,
		"panel 9 9: text red 1 \"A\" at 2 1":                   true,
		"panel 9 9: text red 1 \"B\" at 2 1":                   false,
		"round 20: slash red 2; field red":                     true,
		"round 20: box red 1 1 at 0 0":                         true, // not in the shape
	} {
		if is, err := face.Mirror(read(t, text)); is != want || err != api.OK {
			t.Errorf("Mirror of %s: %v, error %d", text, is, err)
		}
	}
	for _, f := range someFaces() {
		want := true
		for _, row := range painted(f).colour {
			back := slices.Clone(row)
			slices.Reverse(back)
			want = want && slices.Equal(row, back)
		}
		if is, err := face.Mirror(f); is != want || err != api.OK {
			t.Fatalf("Mirror of %s: %v, error %d", write(t, f), is, err)
		}
	}
}

// P1.6: Screens.
func TestScreens(t *testing.T) {
	all := "panel 9 4: box black 1 1 at 0 0; box brown 1 1 at 1 0; box blue 1 1 at 2 0; box green 1 1 at 3 0; " +
		"box red 1 1 at 4 0; box orange 1 1 at 5 0; box yellow 1 1 at 6 0; box white 1 1 at 7 0"
	for text, want := range map[string][]int{
		"round 60":                             nil,
		all:                                    {1, 2, 3, 4, 5, 6, 7, 8},
		"round 60: field white; rim red 8":     {api.White, api.Red},
		"round 60: field red; rim white 8":     {api.White, api.Red},
		"round 60: field red; field white":     {api.White},
		"round 60: rim black 1; slash brown 1": {api.Brown, api.Black},
		"round 60: box green 8 8 at 0 0; box blue 1 1 at 30 30": {api.Blue},
	} {
		if screens, err := face.Screens(read(t, text)); !slices.Equal(screens, want) || err != api.OK {
			t.Errorf("Screens of %s: %v, error %d", text, screens, err)
		}
	}
	for _, f := range someFaces() {
		var want []int
		areas := painted(f).areas()
		for colour := 1; colour <= 8; colour++ {
			if areas[colour] > 0 {
				want = append(want, colour)
			}
		}
		if screens, err := face.Screens(f); !slices.Equal(screens, want) || err != api.OK {
			t.Fatalf("Screens of %s: %v, error %d", write(t, f), screens, err)
		}
	}
}

// P1.11: the areas add up to those of the box, and the runs of all rows have the same dots.
func TestAreasAddUp(t *testing.T) {
	for _, f := range someFaces() {
		w, h, err := face.Extent(f)
		must(t, "Extent", err)
		areas, err := face.Areas(f)
		must(t, "Areas", err)
		var runs [10]int
		for j := range h {
			row, err := face.Row(f, j)
			must(t, "Row", err)
			for _, run := range row {
				runs[run.Colour] += run.Count
			}
		}
		sum := 0
		for colour, area := range areas {
			sum += area
			if colour > 0 && area != runs[colour] {
				t.Errorf("%s: the area of %d is %d, the runs have %d", write(t, f), colour, area, runs[colour])
			}
		}
		if sum != w*h {
			t.Errorf("%s: the areas add up to %d", write(t, f), sum)
		}
	}
}

// P1.12: what is painted last is seen; a field hides all in front of it; Trim leaves an equal face of seen items.
func TestCover(t *testing.T) {
	for _, f := range someFaces() {
		over := f
		over.Items = append(slices.Clone(f.Items), api.Item{Kind: api.ItemField, Colour: api.Brown})
		alone := api.Face{Shape: f.Shape, Size: f.Size, Height: f.Height, Items: over.Items[len(f.Items):]}
		trimmed, err := face.Trim(over)
		must(t, "Trim", err)
		if is, err := face.Equal(over, alone); !is || err != api.OK || !same(trimmed, alone) {
			t.Errorf("%s does not hide all: trimmed it is %s", write(t, over), write(t, trimmed))
		}
		g, err := face.Trim(f)
		must(t, "Trim", err)
		if is, err := face.Equal(f, g); !is || err != api.OK {
			t.Errorf("Trim of %s is not equal", write(t, f))
		}
		if again, err := face.Trim(g); !same(g, again) || err != api.OK {
			t.Errorf("Trim of Trim of %s: %v, error %d", write(t, f), again, err)
		}
		// Without any of its items a trimmed face has another item on top of some dot.
		if seen := painted(g).seenItems(); len(g.Items) > 0 && len(seen) < len(g.Items) {
			t.Errorf("Trim of %s has items that are not seen", write(t, f))
		}
	}
}

// P1.13: shapes without items are the same in a mirror, and those of four kinds upside down, too.
func TestMirrors(t *testing.T) {
	for shape := api.ShapeRound; shape <= api.ShapeDown; shape++ {
		for size := 4; size <= api.MaxFace; size++ {
			f := api.Face{Shape: shape, Size: size}
			if shape == api.ShapePanel {
				f.Height = 204 - size
			}
			if is, err := face.Mirror(f); !is || err != api.OK {
				t.Errorf("Mirror of %s: %v, error %d", write(t, f), is, err)
			}
			if shape != api.ShapeUp && shape != api.ShapeDown {
				upsideDown(t, f)
			}
		}
	}
}

// upsideDown fails the test if a face is not the same upside down.
func upsideDown(t *testing.T, f api.Face) {
	t.Helper()
	_, h, err := face.Extent(f)
	must(t, "Extent", err)
	for j := range h / 2 {
		low, err := face.Row(f, j)
		must(t, "Row", err)
		high, err := face.Row(f, h-1-j)
		must(t, "Row", err)
		if !slices.Equal(low, high) {
			t.Errorf("%s is another one upside down", write(t, f))
		}
	}
}
