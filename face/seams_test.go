package face_test

import (
	"math"
	"math/rand/v2"
	"slices"
	"testing"

	"blazon/api"
	"blazon/face"
)

// P1.9: Seams.
func TestSeams(t *testing.T) {
	letter := "panel 60 20: text black 2 \"A\" at 20 2" // columns 20 to 29
	for _, c := range []struct {
		text  string
		width int
		want  []int
	}{
		{"panel 60 10", 25, []int{25, 50}},
		{"panel 60 10", 30, []int{30}},
		{"panel 60 10", 29, []int{29, 58}},
		{"panel 60 10", 59, []int{59}},
		{"panel 60 10", 60, nil},
		{"panel 60 10", 200, nil},
		{"panel 4 10", 1, []int{1, 2, 3}},
		{"round 60", 50, []int{50}},
		{"down 15", 10, []int{10}},
		{letter, 25, []int{20, 45}},
		{letter, 20, []int{20, 40}},
		{letter, 21, []int{20, 41}},
		{letter, 29, []int{20, 49}},
		{letter, 30, []int{30}}, // just behind the letter
		{letter, 10, []int{10, 20, 30, 40, 50}},
		{letter, 60, nil},
		{"panel 60 20: text black 2 \"AB\" at 20 2", 31, []int{31}}, // between two letters
		{"panel 60 20: text black 2 \"AB\" at 20 2", 32, []int{32}},
		{"panel 60 20: text black 2 \"AB\" at 20 2", 33, []int{32}},
		{"panel 60 20: text black 2 \"A B\" at 20 2", 38, []int{38}},             // within the space
		{"panel 60 20: text black 2 \"   \" at 20 2", 25, []int{25, 50}},         // nothing but spaces
		{"panel 60 20: text black 2 \" A\" at 8 2", 25, []int{20, 45}},           // behind a space
		{letter + "; field white", 25, []int{20, 45}},                            // a letter that is not seen
		{"panel 60 20: text black 2 \"A\" at 20 200", 25, []int{20, 45}},         // or that is above the box
		{"panel 60 20: text black 2 \"A\" at 55 2", 58, []int{55}},               // or goes on beside the box
		{"panel 60 20: text black 2 \"A\" at 60 2", 58, []int{58}},               // or is beside it
		{"panel 60 20: text black 200 \"A\" at 10 2", 50, []int{10}},             // or ends far beyond it
		{letter + "; text red 1 \"I\" at 17 2", 25, []int{17, 42}},               // two that overlap
		{letter + "; box red 10 10 at 40 2; disc red 10 at 40 2", 45, []int{45}}, // no letters
		{"panel 60 20: text black 1 \"A\" at 20 2", 21, []int{20, 41}},
		{"panel 60 20: text black 1 \"A\" at 20 2", 24, []int{20, 44}},
		{"panel 60 20: text black 1 \"A\" at 20 2", 25, []int{25, 50}},
		{"panel 60 20: text black 1 \"AAAA\" at 0 2", 5, []int{5, 6, 11, 12, 17, 18, 23, 28, 33, 38, 43, 48, 53, 58}},
	} {
		if seams, err := face.Seams(read(t, c.text), c.width); !slices.Equal(seams, c.want) || err != api.OK {
			t.Errorf("Seams of %s and %d: %v, error %d", c.text, c.width, seams, err)
		}
	}
}

// P1.9: the errors of Seams.
func TestSeamErrors(t *testing.T) {
	letter := "panel 60 20: text black 2 \"A\" at 20 2"
	for _, c := range []struct {
		text  string
		width int
		want  api.Errno
	}{
		{"panel 60 10", 0, api.ErrArg}, {"panel 60 10", -1, api.ErrArg}, {"panel 60 10", 201, api.ErrArg},
		{"panel 60 10", math.MaxInt, api.ErrArg}, {"panel 60 10", math.MinInt, api.ErrArg},
		{letter, 0, api.ErrArg},
		{letter, 9, api.ErrWide},
		{letter, 1, api.ErrWide},
		{"panel 60 20: text black 2 \"A\" at 0 2", 9, api.ErrWide},
		{"panel 60 20: text black 2 \"A\" at 55 2", 4, api.ErrWide}, // the last strip would begin in the letter
		{"panel 60 20: text black 1 \"AAAA\" at 0 2", 4, api.ErrWide},
	} {
		if seams, err := face.Seams(read(t, c.text), c.width); err != c.want || len(seams) != 0 {
			t.Errorf("Seams of %s and %d: %v, error %d", c.text, c.width, seams, err)
		}
	}
}

// cuts reports whether a seam at the column c cuts a letter.
func cuts(f api.Face, c int) bool {
	for _, it := range f.Items {
		for k, r := range it.Text {
			first := it.Left + 6*it.A*k
			if r != ' ' && first < c && c <= first+5*it.A-1 {
				return true
			}
		}
	}
	return false
}

// leastStrips returns the least number of strips, or 0 if there is no way.
func leastStrips(f api.Face, w, width int) int {
	least := make([]int, w+1) // of the columns in front of each one; -1: no way
	for end := 1; end <= w; end++ {
		least[end] = -1
		for begin := max(0, end-width); begin < end; begin++ {
			if least[begin] >= 0 && (end == w || !cuts(f, end)) && (least[end] < 0 || least[begin]+1 < least[end]) {
				least[end] = least[begin] + 1
			}
		}
	}
	return max(least[w], 0)
}

// P1.15: no strip is wider than width, no letter is cut, each strip is as wide as possible, and there is no way with
// fewer strips; where Seams finds none, there is none.
func TestSeamsAreFewest(t *testing.T) {
	r := rand.New(rand.NewPCG(5, 6))
	for range 1500 {
		f := api.Face{Shape: api.ShapePanel, Size: 4 + r.IntN(100), Height: 10}
		for range r.IntN(4) {
			f.Items = append(f.Items, api.Item{Kind: api.ItemText, Colour: api.Red, Left: r.IntN(f.Size + 1), Low: r.IntN(11),
				A: 1 + r.IntN(3), Text: someText(r, 5)})
		}
		width := 1 + r.IntN(1+r.IntN(60))
		seams, err := face.Seams(f, width)
		least := leastStrips(f, f.Size, width)
		if err == api.ErrWide && least == 0 && len(seams) == 0 {
			continue
		}
		if err != api.OK || len(seams)+1 != least {
			t.Fatalf("Seams of %s and %d: %v, error %d; %d strips are possible", write(t, f), width, seams, err, least)
		}
		begin := 0
		for _, c := range append(slices.Clone(seams), f.Size) {
			if c <= begin || c-begin > width || c < f.Size && cuts(f, c) {
				t.Fatalf("Seams of %s and %d: %v", write(t, f), width, seams)
			}
			for wider := c + 1; wider <= min(begin+width, f.Size); wider++ {
				if wider == f.Size || !cuts(f, wider) {
					t.Fatalf("Seams of %s and %d: %v: the strip from %d could be wider", write(t, f), width, seams, begin)
				}
			}
			begin = c
		}
	}
}
