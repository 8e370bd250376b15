package light_test

import (
	"math"
	"math/rand/v2"
	"testing"

	"blazon/api"
	"blazon/light"
)

// slanted is a box with no side along an axis.
func slanted() [4]api.XY {
	return [4]api.XY{{X: 1000, Y: 4000}, {X: 3000, Y: 1000}, {X: 8000, Y: 3000}, {X: 4000, Y: 9000}}
}

func square(least, most int) [4]api.XY {
	return [4]api.XY{{X: least, Y: least}, {X: most, Y: least}, {X: most, Y: most}, {X: least, Y: most}}
}

// P3.8: Inside, on the sides, beside them and at the corners.
func TestInside(t *testing.T) {
	for _, c := range []struct {
		box  [4]api.XY
		p    api.XY
		want bool
	}{
		{square(100, 200), api.XY{X: 150, Y: 150}, true},
		{square(100, 200), api.XY{X: 100, Y: 150}, true},
		{square(100, 200), api.XY{X: 200, Y: 150}, true},
		{square(100, 200), api.XY{X: 150, Y: 100}, true},
		{square(100, 200), api.XY{X: 150, Y: 200}, true},
		{square(100, 200), api.XY{X: 100, Y: 100}, true},
		{square(100, 200), api.XY{X: 200, Y: 200}, true},
		{square(100, 200), api.XY{X: 99, Y: 150}, false},
		{square(100, 200), api.XY{X: 201, Y: 150}, false},
		{square(100, 200), api.XY{X: 150, Y: 99}, false},
		{square(100, 200), api.XY{X: 150, Y: 201}, false},
		// on the line of a side, but outside of the side
		{square(100, 200), api.XY{X: 250, Y: 100}, false},
		{square(100, 200), api.XY{X: 50, Y: 200}, false},
		{square(100, 200), api.XY{X: 100, Y: 99}, false},
		{square(0, 10000), api.XY{}, true},
		{square(0, 10000), api.XY{X: 10000, Y: 10000}, true},
		{square(0, 10000), api.XY{X: 10000, Y: 0}, true},
		{square(0, 1), api.XY{X: 1, Y: 1}, true},
		{square(0, 1), api.XY{X: 2, Y: 1}, false},
		{slanted(), api.XY{X: 4000, Y: 4000}, true},
		{slanted(), api.XY{X: 2000, Y: 2500}, true},
		{slanted(), api.XY{X: 1999, Y: 2500}, false},
		{slanted(), api.XY{X: 2000, Y: 2499}, false},
		{slanted(), api.XY{X: 1001, Y: 1001}, false},
		{slanted(), api.XY{X: 7999, Y: 8999}, false},
	} {
		if got, err := light.Inside(c.box, c.p); got != c.want || err != api.OK {
			t.Errorf("Inside of %v in %v: %v, error %d", c.p, c.box, got, err)
		}
	}
}

// invalidBoxes returns boxes that are not valid for one reason each.
func invalidBoxes() [][4]api.XY {
	boxes := [][4]api.XY{
		{},
		{{X: 5, Y: 5}, {X: 5, Y: 5}, {X: 5, Y: 5}, {X: 5, Y: 5}},
		{{X: 0, Y: 0}, {X: 0, Y: 9}, {X: 9, Y: 9}, {X: 9, Y: 0}}, // turns right
		{{X: 0, Y: 0}, {X: 9, Y: 0}, {X: 0, Y: 9}, {X: 9, Y: 9}}, // crosses itself
		{{X: 0, Y: 0}, {X: 1, Y: 0}, {X: 2, Y: 0}, {X: 3, Y: 0}},
	}
	for k := range 4 {
		// a corner on the line between its neighbours, one within the triangle of the others, and one twice
		straight, within, double := square(0, 90), square(0, 90), square(100, 200)
		straight[k] = api.XY{X: 45, Y: 45}
		opposite := within[(k+2)%4]
		within[k] = api.XY{X: 30 + opposite.X/3, Y: 30 + opposite.Y/3}
		double[k] = double[(k+1)%4]
		boxes = append(boxes, straight, within, double)
		for _, n := range []int{-1, 10001, math.MinInt, math.MaxInt} {
			across, up := square(0, 10000), square(0, 10000)
			across[k].X, up[k].Y = n, n
			boxes = append(boxes, across, up)
		}
	}
	return boxes
}

// P3.8: the errors of Inside.
func TestInsideErrors(t *testing.T) {
	for _, box := range invalidBoxes() {
		for _, p := range []api.XY{{}, {X: 5, Y: 5}, {X: 40, Y: 40}, {X: 150, Y: 150}, {X: -1, Y: 0}} {
			if got, err := light.Inside(box, p); got || err != api.ErrArg {
				t.Errorf("Inside of %v in %v: %v, error %d", p, box, got, err)
			}
		}
	}
	for _, n := range []int{-1, 10001, math.MinInt, math.MaxInt} {
		for _, p := range []api.XY{{X: n, Y: 5}, {X: 5, Y: n}, {X: n, Y: n}} {
			if got, err := light.Inside(square(0, 10000), p); got || err != api.ErrArg {
				t.Errorf("Inside of %v: %v, error %d", p, got, err)
			}
		}
	}
}

// turnsLeft reports whether a box turns left at each of its corners.
func turnsLeft(box [4]api.XY) bool {
	for k := range 4 {
		a, b, c := box[k], box[(k+1)%4], box[(k+2)%4]
		if (b.X-a.X)*(c.Y-b.Y)-(b.Y-a.Y)*(c.X-b.X) <= 0 {
			return false
		}
	}
	return true
}

// P3.8: Inside by areas, in boxes of all kinds.
func TestInsideByAreas(t *testing.T) {
	r := rand.New(rand.NewPCG(38, 1))
	valid := 0
	for range 30000 {
		most := []int{6, 40, 10000}[r.IntN(3)]
		some := func() api.XY { return api.XY{X: r.IntN(most + 1), Y: r.IntN(most + 1)} }
		box, p := [4]api.XY{some(), some(), some(), some()}, some()
		got, err := light.Inside(box, p)
		if !turnsLeft(box) {
			if got || err != api.ErrArg {
				t.Fatalf("Inside of %v in %v: %v, error %d", p, box, got, err)
			}
			continue
		}
		valid++
		if want := exactInside(box, p); got != want || err != api.OK {
			t.Fatalf("Inside of %v in %v: %v, error %d, not %v", p, box, got, err, want)
		}
		checkBox(t, box)
	}
	if valid < 1000 {
		t.Errorf("only %d boxes were valid", valid)
	}
}

// checkBox holds a box against P3.13: its corners, and the places halfway between two of them, are Inside.
func checkBox(t *testing.T, box [4]api.XY) {
	t.Helper()
	for _, a := range box {
		for _, b := range box {
			if (a.X+b.X)%2 != 0 || (a.Y+b.Y)%2 != 0 {
				continue
			}
			half := api.XY{X: (a.X + b.X) / 2, Y: (a.Y + b.Y) / 2}
			if inside, err := light.Inside(box, half); !inside || err != api.OK {
				t.Fatalf("Inside of %v, halfway between two corners of %v: %v, error %d", half, box, inside, err)
			}
		}
	}
}

// P3.13: Boxes.
func TestBoxes(t *testing.T) {
	for _, box := range [][4]api.XY{slanted(), square(0, 1), square(0, 10000), square(3, 8), {{X: 0, Y: 0}, {X: 10000, Y: 9999}, {X: 10000, Y: 10000}, {X: 9999, Y: 10000}}} {
		checkBox(t, box)
	}
}
