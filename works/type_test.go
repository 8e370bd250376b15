package works_test

import (
	"slices"
	"testing"

	"blazon/api"
	"blazon/works"
)

func typeOf(text string) api.Type {
	return api.Type{Code: 5, Grade: 2, From: 0, To: 1000, Text: text}
}

// P10.1: what makes a type valid, at the limits and just beyond them.
func TestValidType(t *testing.T) {
	const text = "round 60: field white; rim red 8"
	for _, c := range []struct {
		t    api.Type
		want bool
	}{
		{api.Type{Code: 1, Grade: 1, From: 0, To: 1, Text: text}, true},
		{api.Type{Code: 1000000, Grade: 3, From: 100000, To: 100001, Text: text}, true},
		{api.Type{Code: 0, Grade: 1, From: 0, To: 1, Text: text}, false},
		{api.Type{Code: 1000001, Grade: 1, From: 0, To: 1, Text: text}, false},
		{api.Type{Code: -1, Grade: 1, From: 0, To: 1, Text: text}, false},
		{api.Type{Code: 1, Grade: 0, From: 0, To: 1, Text: text}, false},
		{api.Type{Code: 1, Grade: 4, From: 0, To: 1, Text: text}, false},
		{api.Type{Code: 1, Grade: 1, From: -1, To: 1, Text: text}, false},
		{api.Type{Code: 1, Grade: 1, From: 0, To: 0, Text: text}, false},
		{api.Type{Code: 1, Grade: 1, From: 7, To: 7, Text: text}, false},
		{api.Type{Code: 1, Grade: 1, From: 100001, To: 100002, Text: text}, false},
		{api.Type{Code: 1, Grade: 1, From: 0, To: 100002, Text: text}, false},
		{api.Type{Code: 1, Grade: 1, From: 1<<63 - 1, To: -1 << 63, Text: text}, false},
		{typeOf(""), false},
		{typeOf("round 3: field white"), false},
		{typeOf(text + " "), false},
		{typeOf("round 60"), false},
		{typeOf("round 60: field black"), false},
		{typeOf("round 60: field white; field black"), false},
		{typeOf("round 60: rim black 4"), false},
		{typeOf("round 60: box white 1 1 at 0 0"), false},
		{typeOf("round 60: box white 1 1 at 30 30"), true},
		{typeOf("panel 60 4: field black; box brown 1 1 at 59 3"), true},
		{api.Type{}, false},
	} {
		if got := works.ValidType(c.t); got != c.want {
			t.Errorf("ValidType of %+v: %v", c.t, got)
		}
	}
}

// P10.1: strips are those of Seams; no letter is cut.
func TestStrips(t *testing.T) {
	for _, c := range []struct {
		text  string
		width int
		want  []int
	}{
		{"panel 60 40: field white", 25, []int{25, 25, 10}},
		{"panel 60 40: field white", 60, []int{60}},
		{"panel 60 40: field white", 150, []int{60}},
		{"panel 60 40: field white", 59, []int{59, 1}},
		{"panel 4 4: field white", 1, []int{1, 1, 1, 1}},
		{"panel 60 40: field blue; text white 2 \"STOP\" at 7 8", 25, []int{19, 24, 17}},
		{"up 30: field white", 20, []int{20, 10}},
	} {
		got, err := works.Strips(typeOf(c.text), c.width)
		if !slices.Equal(got, c.want) || err != api.OK {
			t.Errorf("Strips of %s at %d: %v, error %d, not %v", c.text, c.width, got, err, c.want)
		}
	}
}

// P10.1: the need of a type: its sheet is of the first colour that is seen and not black, its pieces of the widest strip.
func TestNeed(t *testing.T) {
	for _, c := range []struct {
		text  string
		width int
		want  api.Need
	}{
		{"round 60: field white; rim red 8", 60, api.Need{Grade: 2, Colour: api.White, Width: 60, Length: 60, Count: 1}},
		{"round 60: rim red 8", 50, api.Need{Grade: 2, Colour: api.Red, Width: 50, Length: 60, Count: 2}},
		{"round 60: field brown; disc blue 4 at 28 28", 50, api.Need{Grade: 2, Colour: api.Blue, Width: 50, Length: 60, Count: 2}},
		{"round 60: field white; field brown", 50, api.Need{Grade: 2, Colour: api.Brown, Width: 50, Length: 60, Count: 2}},
		{"up 60: field black; rim yellow 4", 60, api.Need{Grade: 2, Colour: api.Yellow, Width: 60, Length: 52, Count: 1}},
		{"panel 200 150: field green", 1, api.Need{Grade: 2, Colour: api.Green, Width: 1, Length: 150, Count: 200}},
		{"panel 200 4: field green", 150, api.Need{Grade: 2, Colour: api.Green, Width: 150, Length: 4, Count: 2}},
		{"panel 60 40: field blue; text white 2 \"STOP\" at 7 8", 25, api.Need{Grade: 2, Colour: api.White, Width: 24, Length: 40, Count: 3}},
	} {
		got, err := works.Need(typeOf(c.text), c.width)
		if got != c.want || err != api.OK {
			t.Errorf("Need of %s at %d: %+v, error %d, not %+v", c.text, c.width, got, err, c.want)
		}
	}
}

// P10.1: the errors of Strips and Need, and their order.
func TestNeedErrors(t *testing.T) {
	const letter = "panel 100 100: field red; text white 12 \"M\" at 5 3" // 60 dots wide
	for _, c := range []struct {
		t     api.Type
		width int
		want  api.Errno
	}{
		{typeOf("round 60: field black"), 0, api.ErrType},
		{api.Type{}, 151, api.ErrType},
		{typeOf(letter), 0, api.ErrArg},
		{typeOf(letter), -1, api.ErrArg},
		{typeOf(letter), 151, api.ErrArg},
		{typeOf(letter), 59, api.ErrWide},
		{typeOf(letter), 1, api.ErrWide},
		{typeOf(letter), 60, api.OK},
	} {
		strips, err := works.Strips(c.t, c.width)
		if err != c.want || (err != api.OK && len(strips) > 0) {
			t.Errorf("Strips of %+v at %d: %v, error %d, not %d", c.t, c.width, strips, err, c.want)
		}
		need, err := works.Need(c.t, c.width)
		if err != c.want || (err != api.OK && need != api.Need{}) {
			t.Errorf("Need of %+v at %d: %+v, error %d, not %d", c.t, c.width, need, err, c.want)
		}
	}
}

// P10.1: Strips and Need as a second way has them, which looks at each dot and each letter.
func TestNeedReference(t *testing.T) {
	for _, text := range faceTexts() {
		for width := 1; width <= 150; width++ {
			want, wantNeed, wantErr := referenceStrips(typeOf(text), width)
			strips, err := works.Strips(typeOf(text), width)
			if !slices.Equal(strips, want) || err != wantErr {
				t.Errorf("Strips of %s at %d: %v, error %d, not %v, %d", text, width, strips, err, want, wantErr)
			}
			need, err := works.Need(typeOf(text), width)
			if need != wantNeed || err != wantErr {
				t.Errorf("Need of %s at %d: %+v, error %d, not %+v, %d", text, width, need, err, wantNeed, wantErr)
			}
		}
	}
}
