package face_test

import (
	"math"
	"math/rand/v2"
	"slices"
	"strings"
	"testing"

	"blazon/api"
	"blazon/face"
)

// P1.7: Letter.
func TestLetter(t *testing.T) {
	if len(letterRows) != 37 {
		t.Fatalf("the table has %d letters", len(letterRows))
	}
	for c := range 256 {
		rows, ok := face.Letter(byte(c))
		want, is := letterRows[byte(c)]
		if rows != want || ok != is {
			t.Errorf("Letter of %q: %x, %v", byte(c), rows, ok)
		}
	}
	if rows, ok := face.Letter('T'); !ok || rows != [7]int{0x1F, 4, 4, 4, 4, 4, 4} {
		t.Errorf("Letter of T: %x, %v", rows, ok)
	}
	if rows, ok := face.Letter(' '); !ok || rows != [7]int{} {
		t.Errorf("Letter of the space: %x, %v", rows, ok)
	}
	if rows, ok := face.Letter('7'); !ok || rows != [7]int{0x1F, 1, 2, 4, 8, 8, 8} {
		t.Errorf("Letter of 7: %x, %v", rows, ok)
	}
}

// P1.7: Length.
func TestLength(t *testing.T) {
	for _, c := range []struct {
		s       string
		unit, n int
	}{
		{"STOP", 2, 46}, {"STOP", 1, 23}, {"A", 1, 5}, {"A", 200, 1000}, {" ", 3, 15}, {"A B", 1, 17},
		{spelling[:24], 1, 143}, {spelling[13:], 200, 28600}, {"0123456789", 1, 59},
	} {
		if n, err := face.Length(c.s, c.unit); n != c.n || err != api.OK {
			t.Errorf("Length of %q and %d: %d, error %d", c.s, c.unit, n, err)
		}
	}
	for _, c := range []struct {
		s    string
		unit int
	}{
		{"", 1}, {"A", 0}, {"A", -1}, {"A", 201}, {"A", math.MaxInt}, {"A", math.MinInt}, {strings.Repeat("A", 25), 1},
		{"a", 1}, {"A.", 1}, {"A\n", 1}, {"\u0141", 1}, {"\xff", 1}, {"\x00", 1}, {"", 0}, {strings.Repeat("A", 1<<20), 1},
	} {
		if n, err := face.Length(c.s, c.unit); n != 0 || err != api.ErrArg {
			t.Errorf("Length of %.30q and %d: %d, error %d", c.s, c.unit, n, err)
		}
	}
}

// P1.8: Panel.
func TestPanel(t *testing.T) {
	for _, c := range []struct {
		lines             []string
		unit, ground, ink int
		want              string
	}{
		{[]string{"STOP"}, 2, api.Red, api.White, `panel 60 30: field red; rim white 2; text white 2 "STOP" at 7 8`},
		// 55 + 30 is 85, 70 + 20 + 30 is 120: nothing is added
		{[]string{"AB", "A"}, 5, api.Blue, api.Yellow, `panel 85 120: field blue; rim yellow 5; text yellow 5 "AB" at 15 70; text yellow 5 "A" at 30 15`},
		// 17 + 6 is 23, 7 + 6 is 13: 2 of the height are added, 1 of them below
		{[]string{"A B"}, 1, api.White, api.Black, `panel 25 15: field white; rim black 1; text black 1 "A B" at 4 4`},
		// 5 + 6 is 11, 21 + 8 + 6 is 35
		{[]string{"1", "2", "3"}, 1, api.White, api.Black, `panel 15 35: field white; rim black 1; text black 1 "1" at 5 25; text black 1 "2" at 5 14; text black 1 "3" at 5 3`},
		// 15 + 18 is 33, 21 + 18 is 39: 1 is added, and half of it is 0
		{[]string{" "}, 3, api.Black, api.Green, `panel 35 40: field black; rim green 3; text green 3 " " at 10 10`},
		// 41 + 6 is 47, 14 + 4 + 6 is 24; of two lines the second one is longer
		{[]string{"A", "TO ROME"}, 1, api.Brown, api.White, `panel 50 25: field brown; rim white 1; text white 1 "A" at 22 15; text white 1 "TO ROME" at 4 4`},
	} {
		f, err := face.Panel(c.lines, c.unit, c.ground, c.ink)
		if err != api.OK || write(t, f) != c.want {
			t.Errorf("Panel of %q: %v, error %d", c.lines, f, err)
		}
	}
	eight := slices.Repeat([]string{"A"}, 8)
	if f, err := face.Panel(eight, 1, 1, 2); err != api.OK || len(f.Items) != 10 || f.Height != 90 {
		t.Errorf("Panel of 8 lines: %v, error %d", f, err)
	}
	if f, err := face.Panel([]string{spelling[:24]}, 1, 1, 2); err != api.OK || f.Size != 150 {
		t.Errorf("Panel of 24 letters: %v, error %d", f, err)
	}
	if f, err := face.Panel([]string{"A"}, 15, 1, 2); err != api.OK || f.Height != 195 || f.Size != 165 {
		t.Errorf("Panel of large letters: %v, error %d", f, err)
	}
	if f, err := face.Panel([]string{"0123456789"}, 3, 1, 2); err != api.OK || f.Size != 195 {
		t.Errorf("Panel of a long line: %v, error %d", f, err)
	}
}

// P1.8: the errors of Panel.
func TestPanelErrors(t *testing.T) {
	long := []string{"0123456789ABCDEF"} // 95 * 2 + 12 is 202
	for _, c := range []struct {
		name              string
		lines             []string
		unit, ground, ink int
		want              api.Errno
	}{
		{"no lines", nil, 1, 1, 2, api.ErrArg},
		{"9 lines", slices.Repeat([]string{"A"}, 9), 1, 1, 2, api.ErrArg},
		{"9 wide lines", slices.Repeat([]string{"A"}, 9), 100, 1, 2, api.ErrArg},
		{"unit 0", []string{"A"}, 0, 1, 2, api.ErrArg},
		{"unit 201", []string{"A"}, 201, 1, 2, api.ErrArg},
		{"a huge unit", []string{"A"}, math.MaxInt, 1, 2, api.ErrArg},
		{"the least unit", []string{"A"}, math.MinInt, 1, 2, api.ErrArg},
		{"an empty line", []string{"A", ""}, 1, 1, 2, api.ErrArg},
		{"a small letter", []string{"A", "b", "C"}, 1, 1, 2, api.ErrArg},
		{"25 letters", []string{strings.Repeat("A", 25)}, 1, 1, 2, api.ErrArg},
		{"ground 0", []string{"A"}, 1, 0, 2, api.ErrArg},
		{"ground bare", []string{"A"}, 1, api.Bare, 2, api.ErrArg},
		{"ink 0", []string{"A"}, 1, 1, 0, api.ErrArg},
		{"ink bare", []string{"A"}, 1, 1, api.Bare, api.ErrArg},
		{"huge colours", []string{"A"}, 1, math.MaxInt, math.MinInt, api.ErrArg},
		{"one colour", []string{"A"}, 1, 3, 3, api.ErrArg},
		{"wide and of one colour", []string{"A"}, 100, 3, 3, api.ErrArg},
		{"wide with a small letter", append(slices.Clone(long), "a"), 2, 1, 2, api.ErrArg},
		{"too wide", long, 2, 1, 2, api.ErrWide},
		{"too high", slices.Repeat([]string{"A"}, 6), 3, 1, 2, api.ErrWide}, // 72 * 3 - 12 is 204
		{"a letter that is too high", []string{"A"}, 16, 1, 2, api.ErrWide},
		{"the greatest unit", []string{"A"}, 200, 1, 2, api.ErrWide},
	} {
		if f, err := face.Panel(c.lines, c.unit, c.ground, c.ink); err != c.want || !same(f, api.Face{}) {
			t.Errorf("Panel with %s: %v, error %d", c.name, f, err)
		}
	}
}

// somePanels calls check with the lines and the unit of panels, valid or too wide.
func somePanels(check func(lines []string, unit int)) {
	r := rand.New(rand.NewPCG(3, 4))
	for range 2000 {
		var lines []string
		for range 1 + r.IntN(8) {
			lines = append(lines, someText(r, 1+r.IntN(24)))
		}
		check(lines, 1+r.IntN(1+r.IntN(20)))
	}
}

// longest returns the Length of the longest line.
func longest(lines []string, unit int) int {
	n := 0
	for _, line := range lines {
		n = max(n, (6*len(line)-1)*unit)
	}
	return n
}

// upTo5 returns n, rounded up to a multiple of 5.
func upTo5(n int) int {
	for n%5 != 0 {
		n++
	}
	return n
}

// P1.8: Panel by its formulas.
func TestPanelFormulas(t *testing.T) {
	somePanels(func(lines []string, unit int) {
		n, size := len(lines), upTo5(longest(lines, unit)+6*unit)
		exact := n*7*unit + (n-1)*4*unit + 6*unit
		height := upTo5(exact)
		f, err := face.Panel(lines, unit, api.Green, api.White)
		if size > 200 || height > 200 {
			if err != api.ErrWide || !same(f, api.Face{}) {
				t.Fatalf("Panel of %q and %d: %v, error %d", lines, unit, f, err)
			}
			return
		}
		want := api.Face{Shape: api.ShapePanel, Size: size, Height: height, Items: []api.Item{
			{Kind: api.ItemField, Colour: api.Green}, {Kind: api.ItemRim, Colour: api.White, A: unit}}}
		for k, line := range lines {
			want.Items = append(want.Items, api.Item{Kind: api.ItemText, Colour: api.White, A: unit, Text: line,
				Left: (size - (6*len(line)-1)*unit) / 2,
				Low:  height - 3*unit - 7*unit - k*11*unit - (height-exact)/2})
		}
		if err != api.OK || !same(f, want) || !face.Valid(f) {
			t.Fatalf("Panel of %q and %d: %v, error %d", lines, unit, f, err)
		}
	})
}

// P1.14: the texts of a panel lie within its rim and do not overlap; a longer line never gives a smaller panel.
func TestPanelsHoldTexts(t *testing.T) {
	somePanels(func(lines []string, unit int) {
		f, err := face.Panel(lines, unit, api.Green, api.White)
		if err != api.OK {
			return
		}
		above := f.Height - unit
		for _, it := range f.Items[2:] {
			length, err := face.Length(it.Text, unit)
			must(t, "Length", err)
			if it.Left < unit || it.Left+length > f.Size-unit || it.Low < unit || it.Low+7*unit > above {
				t.Fatalf("%s: %q leaves the rim, or overlaps", write(t, f), it.Text)
			}
			above = it.Low
		}
		for k, line := range lines {
			longer := slices.Clone(lines)
			longer[k] = line + "A"
			if g, err := face.Panel(longer, unit, api.Green, api.White); err == api.OK && (g.Size < f.Size || g.Height < f.Height) {
				t.Fatalf("%q gives %s, %q gives %s", lines, write(t, f), longer, write(t, g))
			}
		}
	})
}
