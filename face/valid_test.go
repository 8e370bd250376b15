package face_test

import (
	"fmt"
	"math"
	"slices"
	"strings"
	"testing"

	"blazon/api"
	"blazon/face"
)

// calls are the functions with a face as an argument, here with a bad second argument where there can be one; each
// returns the error and whether the other results are zero values.
func calls() map[string]func(f api.Face) (api.Errno, bool) {
	good := api.Face{Shape: api.ShapeRound, Size: 10}
	return map[string]func(f api.Face) (api.Errno, bool){
		"Extent": func(f api.Face) (api.Errno, bool) {
			w, h, err := face.Extent(f)
			return err, w == 0 && h == 0
		},
		"Format": func(f api.Face) (api.Errno, bool) { s, err := face.Format(f); return err, s == "" },
		"At":     func(f api.Face) (api.Errno, bool) { c, err := face.At(f, -1, -1); return err, c == 0 },
		"At in the middle": func(f api.Face) (api.Errno, bool) {
			c, err := face.At(f, 2, 2)
			return err, c == 0
		},
		"Row":           func(f api.Face) (api.Errno, bool) { l, err := face.Row(f, -1); return err, len(l) == 0 },
		"Row 0":         func(f api.Face) (api.Errno, bool) { l, err := face.Row(f, 0); return err, len(l) == 0 },
		"Areas":         func(f api.Face) (api.Errno, bool) { a, err := face.Areas(f); return err, a == [10]int{} },
		"Equal, first":  func(f api.Face) (api.Errno, bool) { is, err := face.Equal(f, good); return err, !is },
		"Equal, second": func(f api.Face) (api.Errno, bool) { is, err := face.Equal(good, f); return err, !is },
		"Equal, both":   func(f api.Face) (api.Errno, bool) { is, err := face.Equal(f, f); return err, !is },
		"Trim": func(f api.Face) (api.Errno, bool) {
			g, err := face.Trim(f)
			return err, g.Shape == 0 && g.Size == 0 && g.Height == 0 && len(g.Items) == 0
		},
		"Mirror":   func(f api.Face) (api.Errno, bool) { is, err := face.Mirror(f); return err, !is },
		"Screens":  func(f api.Face) (api.Errno, bool) { l, err := face.Screens(f); return err, len(l) == 0 },
		"Seams":    func(f api.Face) (api.Errno, bool) { l, err := face.Seams(f, 0); return err, len(l) == 0 },
		"Seams, 5": func(f api.Face) (api.Errno, bool) { l, err := face.Seams(f, 5); return err, len(l) == 0 },
	}
}

// with returns a round face with one item.
func with(it api.Item) api.Face {
	return api.Face{Shape: api.ShapeRound, Size: 60, Items: []api.Item{it}}
}

// invalidFaces returns faces that are not valid for one reason each.
func invalidFaces() map[string]api.Face {
	field := api.Item{Kind: api.ItemField, Colour: api.White}
	faces := map[string]api.Face{
		"zero":            {},
		"shape 0":         {Size: 60},
		"shape 7":         {Shape: 7, Size: 60},
		"shape -1":        {Shape: -1, Size: 60},
		"huge shape":      {Shape: math.MaxInt, Size: 60},
		"size 3":          {Shape: api.ShapeRound, Size: 3},
		"size 201":        {Shape: api.ShapeUp, Size: 201},
		"size -60":        {Shape: api.ShapeDiamond, Size: -60},
		"huge size":       {Shape: api.ShapeUp, Size: math.MaxInt},
		"least size":      {Shape: api.ShapeDown, Size: math.MinInt},
		"height 3":        {Shape: api.ShapePanel, Size: 60, Height: 3},
		"height 201":      {Shape: api.ShapePanel, Size: 60, Height: 201},
		"no height":       {Shape: api.ShapePanel, Size: 60},
		"panel of size 3": {Shape: api.ShapePanel, Size: 3, Height: 60},
		"round height":    {Shape: api.ShapeRound, Size: 60, Height: 60},
		"down height":     {Shape: api.ShapeDown, Size: 60, Height: 52},
		"17 items":        {Shape: api.ShapeRound, Size: 60, Items: slices.Repeat([]api.Item{field}, 17)},
		"a later item":    {Shape: api.ShapeRound, Size: 60, Items: []api.Item{field, {}}},
	}
	items := map[string]api.Item{
		"kind 0":        {Colour: 1},
		"kind 7":        {Kind: 7, Colour: 1},
		"kind -1":       {Kind: -1, Colour: 1},
		"huge kind":     {Kind: math.MaxInt, Colour: 1},
		"colour 0":      {Kind: api.ItemField},
		"bare":          {Kind: api.ItemField, Colour: api.Bare},
		"colour -1":     {Kind: api.ItemField, Colour: -1},
		"huge colour":   {Kind: api.ItemField, Colour: math.MaxInt},
		"25 letters":    {Kind: api.ItemText, Colour: 1, A: 1, Text: strings.Repeat("A", 25)},
		"no letters":    {Kind: api.ItemText, Colour: 1, A: 1},
		"small letter":  {Kind: api.ItemText, Colour: 1, A: 1, Text: "Aa"},
		"wide letter":   {Kind: api.ItemText, Colour: 1, A: 1, Text: "\u0141"}, // its last byte is that of A
		"broken letter": {Kind: api.ItemText, Colour: 1, A: 1, Text: "A\xff"},
		"a zero byte":   {Kind: api.ItemText, Colour: 1, A: 1, Text: "\x00"},
		"a quote":       {Kind: api.ItemText, Colour: 1, A: 1, Text: `A"`},
		"a stop":        {Kind: api.ItemText, Colour: 1, A: 1, Text: "A."},
	}
	for name, it := range items {
		faces[name] = with(it)
	}
	for _, it := range fullItems() {
		for name, bad := range spoiled(it) {
			faces[kindNames[it.Kind]+" with "+name] = with(bad)
		}
	}
	return faces
}

var kindNames = [7]string{"", "field", "rim", "box", "disc", "slash", "text"}

// fullItems returns an item of each kind, with all the fields that it uses.
func fullItems() []api.Item {
	return []api.Item{
		{Kind: api.ItemField, Colour: 1},
		{Kind: api.ItemRim, Colour: 2, A: 3},
		{Kind: api.ItemBox, Colour: 3, Left: 1, Low: 2, A: 3, B: 4},
		{Kind: api.ItemDisc, Colour: 4, Left: 1, Low: 2, A: 3},
		{Kind: api.ItemSlash, Colour: 5, A: 3},
		{Kind: api.ItemText, Colour: 6, Left: 1, Low: 2, A: 3, Text: "A"},
	}
}

// spoiled returns what becomes of a valid item if a field that it uses is out of range, or one that it does not use is
// not zero.
func spoiled(it api.Item) map[string]api.Item {
	items := map[string]api.Item{}
	change := func(name string, f func(bad *api.Item)) {
		bad := it
		f(&bad)
		items[name] = bad
	}
	for name, n := range map[string]int{"-1": -1, "201": 201, "a huge one": math.MaxInt, "the least one": math.MinInt} {
		change("A "+name, func(bad *api.Item) { bad.A = n })
		change("B "+name, func(bad *api.Item) { bad.B = n })
		change("Left "+name, func(bad *api.Item) { bad.Left = n })
		change("Low "+name, func(bad *api.Item) { bad.Low = n })
	}
	exchange := func(n, other int) int {
		if n == 0 {
			return other
		}
		return 0
	}
	change("A used or not", func(bad *api.Item) { bad.A = exchange(it.A, 1) })
	change("B used or not", func(bad *api.Item) { bad.B = exchange(it.B, 1) })
	if it.Left == 0 {
		change("a Left", func(bad *api.Item) { bad.Left = 1 })
		change("a Low", func(bad *api.Item) { bad.Low = 1 })
	}
	if it.Text == "" {
		change("a text", func(bad *api.Item) { bad.Text = "A" })
	}
	return items
}

// validFaces returns valid faces at the ends of what is let.
func validFaces() map[string]api.Face {
	field := api.Item{Kind: api.ItemField, Colour: api.White}
	faces := map[string]api.Face{
		"16 items":          {Shape: api.ShapeRound, Size: 60, Items: slices.Repeat([]api.Item{field}, 16)},
		"no items":          {Shape: api.ShapeRound, Size: 60, Items: []api.Item{}},
		"panel 4 200":       {Shape: api.ShapePanel, Size: 4, Height: 200},
		"panel 200 4":       {Shape: api.ShapePanel, Size: 200, Height: 4},
		"24 letters":        with(api.Item{Kind: api.ItemText, Colour: 8, A: 1, Text: strings.Repeat("Z", 24)}),
		"a space":           with(api.Item{Kind: api.ItemText, Colour: 8, A: 200, Text: " "}),
		"all letters":       with(api.Item{Kind: api.ItemText, Colour: 8, A: 1, Text: spelling[:24]}),
		"all other letters": with(api.Item{Kind: api.ItemText, Colour: 8, A: 1, Text: spelling[24:]}),
	}
	for shape := api.ShapeRound; shape <= api.ShapeDown; shape++ {
		if shape != api.ShapePanel {
			faces[fmt.Sprintf("shape %d, least", shape)] = api.Face{Shape: shape, Size: 4}
			faces[fmt.Sprintf("shape %d, greatest", shape)] = api.Face{Shape: shape, Size: 200}
		}
	}
	for _, it := range fullItems() {
		faces[kindNames[it.Kind]] = with(it)
		for _, n := range []int{0, 1, 200} {
			end := it
			if it.A > 0 {
				end.A = max(n, 1)
			}
			if it.B > 0 {
				end.B = max(n, 1)
			}
			if it.Left > 0 {
				end.Left, end.Low = n, n
			}
			faces[fmt.Sprintf("%s with %d", kindNames[it.Kind], n)] = with(end)
		}
	}
	for colour := api.White; colour <= api.Black; colour++ {
		faces[fmt.Sprintf("colour %d", colour)] = with(api.Item{Kind: api.ItemField, Colour: colour})
	}
	return faces
}

// P1.1: a face that is not valid comes before all other errors, and leaves the other results zero.
func TestErrorOrder(t *testing.T) {
	for name, f := range invalidFaces() {
		for call, do := range calls() {
			if err, zero := do(f); err != api.ErrFace || !zero {
				t.Errorf("%s of a face with %s: error %d, other results zero: %v", call, name, err, zero)
			}
		}
	}
	good := api.Face{Shape: api.ShapePanel, Size: 20, Height: 10}
	if _, err := face.Row(good, 10); err != api.ErrArg {
		t.Errorf("Row of a valid face: error %d", err)
	}
	if _, err := face.Seams(good, 0); err != api.ErrArg {
		t.Errorf("Seams of a valid face: error %d", err)
	}
}

// P1.2: Valid.
func TestValid(t *testing.T) {
	for name, f := range validFaces() {
		if !face.Valid(f) {
			t.Errorf("%s: not valid", name)
		}
	}
	for name, f := range invalidFaces() {
		if face.Valid(f) {
			t.Errorf("%s: valid", name)
		}
	}
	for _, f := range someFaces() {
		if !face.Valid(f) {
			t.Errorf("%v: not valid", f)
		}
	}
}

// P1.2: Extent.
func TestExtent(t *testing.T) {
	for _, c := range []struct{ shape, size, height, w, h int }{
		{api.ShapeRound, 60, 0, 60, 60},
		{api.ShapePanel, 60, 30, 60, 30},
		{api.ShapePanel, 4, 200, 4, 200},
		{api.ShapeDiamond, 5, 0, 5, 5},
		{api.ShapeOctagon, 200, 0, 200, 200},
		{api.ShapeUp, 15, 0, 15, 13},
		{api.ShapeUp, 16, 0, 16, 14}, // 13.87
		{api.ShapeUp, 8, 0, 8, 7},    // 6.93
		{api.ShapeUp, 4, 0, 4, 4},    // 3.47
		{api.ShapeUp, 31, 0, 31, 27}, // 26.87
		{api.ShapeUp, 30, 0, 30, 26},
		{api.ShapeUp, 37, 0, 37, 33}, // 32.07
		{api.ShapeDown, 15, 0, 15, 13},
		{api.ShapeDown, 37, 0, 37, 33},
		{api.ShapeDown, 200, 0, 200, 174}, // 173.33
	} {
		w, h, err := face.Extent(api.Face{Shape: c.shape, Size: c.size, Height: c.height})
		if w != c.w || h != c.h || err != api.OK {
			t.Errorf("Extent of shape %d, size %d: %d, %d, error %d", c.shape, c.size, w, h, err)
		}
	}
	for shape := api.ShapeRound; shape <= api.ShapeDown; shape++ {
		for size := 4; size <= api.MaxFace; size++ {
			f := api.Face{Shape: shape, Size: size}
			if shape == api.ShapePanel {
				f.Height = 204 - size
			}
			w, h, err := face.Extent(f)
			if wantW, wantH := boxOf(f); w != wantW || h != wantH || err != api.OK {
				t.Errorf("Extent of shape %d, size %d: %d, %d, error %d", shape, size, w, h, err)
			}
		}
	}
}

// R4: arguments do not change, and results share no memory with them.
func TestMemory(t *testing.T) {
	text := "panel 40 20: field white; box red 3 4 at 1 2; text black 1 \"AB\" at 5 5"
	f := read(t, text)
	for call, do := range calls() {
		do(f)
		if write(t, f) != text {
			t.Fatalf("%s changed the face", call)
		}
	}
	g, err := face.Trim(f)
	must(t, "Trim", err)
	if len(g.Items) != 3 {
		t.Fatalf("Trim: %v", g)
	}
	g.Items[0].Colour = api.Blue
	if write(t, f) != text {
		t.Error("the face of Trim shares memory with its argument")
	}
	one, _ := face.Screens(f)
	one[0] = 77
	if two, _ := face.Screens(f); two[0] != api.White {
		t.Error("two results of Screens share memory")
	}
	lines := []string{"A", "BC"}
	if _, err := face.Panel(lines, 1, api.Blue, api.White); err != api.OK || !slices.Equal(lines, []string{"A", "BC"}) {
		t.Errorf("Panel changed its lines: %v, error %d", lines, err)
	}
}
