package face_test

import (
	"slices"
	"strings"
	"testing"

	"blazon/api"
	"blazon/face"
)

// same reports whether two faces are the same, where an empty list is a nil one.
func same(f, g api.Face) bool {
	return f.Shape == g.Shape && f.Size == g.Size && f.Height == g.Height && slices.Equal(f.Items, g.Items)
}

// texts returns texts with the faces for which they stand.
func texts() map[string]api.Face {
	item := func(it api.Item) []api.Item { return []api.Item{it} }
	return map[string]api.Face{
		"round 60":     {Shape: api.ShapeRound, Size: 60},
		"panel 200 4":  {Shape: api.ShapePanel, Size: 200, Height: 4},
		"diamond 4":    {Shape: api.ShapeDiamond, Size: 4},
		"octagon 200":  {Shape: api.ShapeOctagon, Size: 200},
		"up 45":        {Shape: api.ShapeUp, Size: 45},
		"down 100":     {Shape: api.ShapeDown, Size: 100},
		"panel 60 100": {Shape: api.ShapePanel, Size: 60, Height: 100},
		"round 60: field white; rim red 8": {Shape: api.ShapeRound, Size: 60, Items: []api.Item{
			{Kind: api.ItemField, Colour: api.White}, {Kind: api.ItemRim, Colour: api.Red, A: 8}}},
		"round 60: field yellow": {Shape: api.ShapeRound, Size: 60, Items: item(api.Item{Kind: api.ItemField, Colour: api.Yellow})},
		"up 60: rim orange 200":  {Shape: api.ShapeUp, Size: 60, Items: item(api.Item{Kind: api.ItemRim, Colour: api.Orange, A: 200})},
		"down 60: box green 1 200 at 0 199": {Shape: api.ShapeDown, Size: 60, Items: item(
			api.Item{Kind: api.ItemBox, Colour: api.Green, A: 1, B: 200, Low: 199})},
		"panel 60 50: disc blue 10 at 200 0": {Shape: api.ShapePanel, Size: 60, Height: 50, Items: item(
			api.Item{Kind: api.ItemDisc, Colour: api.Blue, A: 10, Left: 200})},
		"octagon 60: slash brown 9": {Shape: api.ShapeOctagon, Size: 60, Items: item(
			api.Item{Kind: api.ItemSlash, Colour: api.Brown, A: 9})},
		`diamond 60: text black 2 "A 1" at 3 4`: {Shape: api.ShapeDiamond, Size: 60, Items: item(
			api.Item{Kind: api.ItemText, Colour: api.Black, A: 2, Left: 3, Low: 4, Text: "A 1"})},
		`diamond 60: text black 2 "  " at 3 4; text black 2 " AT 0" at 3 4; text black 2 "0 " at 3 4`: {
			Shape: api.ShapeDiamond, Size: 60, Items: []api.Item{
				{Kind: api.ItemText, Colour: api.Black, A: 2, Left: 3, Low: 4, Text: "  "},
				{Kind: api.ItemText, Colour: api.Black, A: 2, Left: 3, Low: 4, Text: " AT 0"},
				{Kind: api.ItemText, Colour: api.Black, A: 2, Left: 3, Low: 4, Text: "0 "}}},
	}
}

// P1.3: Parse and Format.
func TestTexts(t *testing.T) {
	for text, f := range texts() {
		if g, err := face.Parse(text); err != api.OK || !same(f, g) {
			t.Errorf("Parse of %s: %v, error %d", text, g, err)
		}
		if s, err := face.Format(f); err != api.OK || s != text {
			t.Errorf("Format of %v: %s, error %d", f, s, err)
		}
	}
	sixteen := "round 60: field red" + strings.Repeat("; field red", 15)
	if f, err := face.Parse(sixteen); err != api.OK || len(f.Items) != 16 {
		t.Errorf("Parse of 16 items: %d, error %d", len(f.Items), err)
	}
}

// noTexts are texts of no valid face.
var noTexts = []string{
	"", " ", "60", "round", "round ", "round  60", " round 60", "round 60 ", "round 60\n", "round\t60", "Round 60", "square 60",
	"round 060", "round +60", "round -60", "round 60.0", "round 6O", "round 0x3C", "round 1_0", "round 60a", "round \u0666\u0660", "60 round",
	"round 3", "round 201", "round 18446744073709551676", "round 99999999999999999999999", "round 60 60", "round 60 0",
	"panel 60", "panel 60 ", "panel 60 3", "panel 60 201", "panel 60 030", "panel 60  30", "panel 60 30 30", "panel 60, 30",
	"round 60:", "round 60: ", "round 60:field red", "round 60 : field red", "round 60:  field red", "round 60; field red",
	"round 60: field red;", "round 60: field red; ", "round 60: field red;rim red 8", "round 60: field red;  rim red 8",
	"round 60: field red ;rim red 8", "round 60: field red ; rim red 8", "round 60: field red: rim red 8", "round 60: field red, rim red 8",
	"round 60: ; field red", "round 60: field red; ; field red", "round 60: field red: ", ": field red", "round: field red",
	"round 60: field", "round 60: field ", "round 60: field pink", "round 60: field bare", "round 60: field Red", "round 60: field 4", "round 60: field red ",
	"round 60: field red 1", "round 60: field red 0", "round 60: field  red", "round 60: field red at 0 0", "round 60: field red at ", "round 60: red field",
	"round 60: Field red", "round 60: ring red 8", "round 60: rim", "round 60: rim red", "round 60: rim red ", "round 60: rim 8", "round 60: rim 8 red",
	"round 60: rim red 0", "round 60: rim red 201", "round 60: rim red 08", "round 60: rim red -8", "round 60: rim red 8 8", "round 60: rim red 8 ",
	"round 60: rim red 8 at 0 0", "round 60: rim red  8", "round 60: rim  8", "round 60: rim pink 8",
	"round 60: box red 3 4", "round 60: box red 3 4 at 1", "round 60: box red 3 at 1 2", "round 60: box red at 1 2", "round 60: box red 3 4 at 1 2 3",
	"round 60: box red 0 4 at 1 2", "round 60: box red 3 0 at 1 2", "round 60: box red 3 4 at 201 2", "round 60: box red 3 4 at 1 201", "round 60: box red 3 4 at -1 2",
	"round 60: box red 3 4 at 01 2", "round 60: box red 3 4 at 00 2", "round 60: box red 3 4 at  1 2", "round 60: box red 3 4  at 1 2", "round 60: box red 3 4 at 1 2 ",
	"round 60: box red 3 4 At 1 2", "round 60: box red 3 4 1 2", "round 60: box red 3 4 at 1 2 at 1 2", "round 60: box red 201 4 at 1 2", "round 60: box red 3 201 at 1 2",
	"round 60: disc red 5", "round 60: disc red 5 5 at 1 2", "round 60: disc red at 1 2", "round 60: disc red 0 at 1 2", "round 60: disc red 5 at 1 2 3", "round 60: disc red 5 at -0 2",
	"round 60: slash red", "round 60: slash red 0", "round 60: slash red 5 5", "round 60: slash red 5 at 1 2", "round 60: slash red 5 \"A\"",
	`round 60: text black 1 "" at 0 0`, `round 60: text black 1 "a" at 0 0`, `round 60: text black 1 "A at 0 0`, `round 60: text black 1 A at 0 0`,
	`round 60: text black 1 A" at 0 0`, `round 60: text black 1 "A"`, `round 60: text black 1 "A" at 0`, `round 60: text black "A" at 0 0`, `round 60: text black "A" 1 at 0 0`,
	`round 60: text black 1 "A"" at 0 0`, `round 60: text black 1 ""A" at 0 0`, `round 60: text black 1 "A" "A" at 0 0`, `round 60: text black 1 'A' at 0 0`,
	`round 60: text black 1  "A" at 0 0`, `round 60: text black 1 "A"  at 0 0`, `round 60: text black 1"A" at 0 0`, `round 60: text black 1 "A"at 0 0`,
	`round 60: text black 1 1 "A" at 0 0`, `round 60: text black 0 "A" at 0 0`, `round 60: text black 1 "A; B" at 0 0`, `round 60: text black 1 "A: B" at 0 0`,
	`round 60: text black 1 "A at B" at 0 0`, `round 60: text black 1 "A.B" at 0 0`, `round 60: text black 1 "` + "\u0141" + `" at 0 0`, `round 60: text black 1 " at 0 0`,
	`round 60: text black 1 "AAAAAAAAAAAAAAAAAAAAAAAAA" at 0 0`, "round 60: text black 1 \"A\x00\" at 0 0", `round 60: text  1 "A" at 0 0`,
	`round 60: "A"`, `"round 60"`, "round 60\x00", "round 60: field red\xff",
}

// P1.3: Parse of what is no text of a valid face.
func TestNoTexts(t *testing.T) {
	more := []string{
		"round 60: field red" + strings.Repeat("; field red", 16),
		"round 60: " + strings.Repeat("field red; ", 100000),
		strings.Repeat("round 60: ", 1000),
		"round " + strings.Repeat("6", 100000),
		strings.Repeat(" ", 100000),
	}
	for _, text := range append(more, noTexts...) {
		f, err := face.Parse(text)
		if err != api.ErrForm || !same(f, api.Face{}) {
			t.Errorf("Parse of %.60q: %v, error %d", text, f, err)
		}
	}
}

// P1.3: what is changed by one byte is no text, or the text of the face that Format returns.
func TestNearTexts(t *testing.T) {
	for text := range texts() {
		for n := range len(text) {
			near := []string{text[:n] + text[n+1:], text[:n]}
			for _, c := range []string{" ", "0", "1", "a", `"`, ";", ":", "-"} {
				near = append(near, text[:n]+c+text[n:], text[:n]+c+text[n+1:])
			}
			for _, s := range near {
				f, err := face.Parse(s)
				if err == api.OK && write(t, f) != s {
					t.Errorf("Parse of %q: %v", s, f)
				} else if err != api.OK && err != api.ErrForm {
					t.Errorf("Parse of %q: error %d", s, err)
				}
			}
		}
	}
}

// P1.10: Parse of Format returns the face, Format of Parse the text.
func TestThereAndBack(t *testing.T) {
	faces := someFaces()
	for _, f := range validFaces() {
		faces = append(faces, f)
	}
	for _, f := range faces {
		text := write(t, f)
		g := read(t, text)
		if !same(f, g) {
			t.Errorf("Parse of %s: %v", text, g)
		}
		if again := write(t, g); again != text {
			t.Errorf("Format of Parse of %s: %s", text, again)
		}
	}
}
