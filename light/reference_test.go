package light_test

import (
	"math/big"
	"math/rand/v2"
	"slices"

	"blazon/api"
)

// The tests hold the package against a second way to the same results, which follows the words of the chapter and
// computes with big numbers.

// floor returns a product of numbers, divided by another product and rounded down.
func floor(above, below []int) int {
	q := new(big.Int).Div(product(above), product(below))
	return int(q.Int64())
}

func product(factors []int) *big.Int {
	p := big.NewInt(1)
	for _, f := range factors {
		p.Mul(p, big.NewInt(int64(f)))
	}
	return p
}

func sum(products ...*big.Int) *big.Int {
	s := new(big.Int)
	for _, p := range products {
		s.Add(s, p)
	}
	return s
}

// exactCoefficients returns the coefficient at two slopes once for each pair of slopes between which both lie.
func exactCoefficients(t api.Table, obs, ent int) []int {
	if obs > t.Obs[len(t.Obs)-1] || ent > t.Ent[len(t.Ent)-1] {
		return []int{0}
	}
	obs, ent = max(obs, t.Obs[0]), max(ent, t.Ent[0])
	var all []int
	for i := range len(t.Obs) - 1 {
		for j := range len(t.Ent) - 1 {
			o1, o2, e1, e2 := t.Obs[i], t.Obs[i+1], t.Ent[j], t.Ent[j+1]
			if obs < o1 || obs > o2 || ent < e1 || ent > e2 {
				continue
			}
			above := sum(
				product([]int{t.R[i][j], o2 - obs, e2 - ent}),
				product([]int{t.R[i][j+1], o2 - obs, ent - e1}),
				product([]int{t.R[i+1][j], obs - o1, e2 - ent}),
				product([]int{t.R[i+1][j+1], obs - o1, ent - e1}),
			)
			q := new(big.Int).Div(above, product([]int{o2 - o1, e2 - e1}))
			all = append(all, int(q.Int64()))
		}
	}
	return all
}

// exactBright returns the brightness at the distance d. What is rounded up is what, taken negative, is rounded down.
func exactBright(t api.Table, s api.Scene, d int) int {
	obs := -floor([]int{-s.Rise, 1000}, []int{d})
	ent := -floor([]int{-s.Side, 1000}, []int{d}) + s.Turn
	return floor([]int{s.Power, exactCoefficients(t, obs, ent)[0]}, []int{d, d})
}

func exactLegible(t api.Table, s api.Scene, need, letter, d int) bool {
	return exactBright(t, s, d) >= need && 10*d <= 6*letter
}

func exactAged(r, keep, years int) int {
	for years > 0 {
		r = floor([]int{r, keep}, []int{1000})
		years--
	}
	return r
}

// exactValue returns the value on a day, from the last measure in a list that is read from behind.
func exactValue(a api.Ageing, side int, m []api.Measure, day int) int {
	for _, last := range slices.Backward(m) {
		if last.Day <= day {
			return exactAged(last.R, a.Keep[side], (day-last.Day)/365)
		}
	}
	return -1
}

func exactCorrected(r, first, last api.Reading, reference int) int {
	above := product([]int{r.Value, reference, last.Minute - first.Minute})
	below := sum(product([]int{first.Value, last.Minute - r.Minute}), product([]int{last.Value, r.Minute - first.Minute}))
	return int(new(big.Int).Div(above, below).Int64())
}

// exactInside reports whether p lies in the triangle of the first three corners or in that of the others.
func exactInside(box [4]api.XY, p api.XY) bool {
	return inTriangle(box[0], box[1], box[2], p) || inTriangle(box[2], box[3], box[0], p)
}

// inTriangle reports whether the triangles of p with the sides of another one are together as large as that one.
func inTriangle(a, b, c, p api.XY) bool {
	return area(a, b, p)+area(b, c, p)+area(c, a, p) == area(a, b, c)
}

// area returns twice the area of a triangle.
func area(a, b, c api.XY) int {
	n := a.X*b.Y - b.X*a.Y + b.X*c.Y - c.X*b.Y + c.X*a.Y - a.X*c.Y
	return max(n, -n)
}

// someSlopes returns from 2 to 6 slopes, some of them close together and some far apart.
func someSlopes(r *rand.Rand) []int {
	most := []int{12, 2000, 100000, 1000000}[r.IntN(4)]
	slopes := map[int]bool{}
	for n := 2 + r.IntN(5); len(slopes) < n; {
		slopes[1+r.IntN(most)] = true
	}
	var list []int
	for slope := range slopes {
		list = append(list, slope)
	}
	slices.Sort(list)
	return list
}

// someTable returns a valid table.
func someTable(r *rand.Rand) api.Table {
	t := api.Table{Obs: someSlopes(r), Ent: someSlopes(r)}
	most := []int{5, 500, 100000}[r.IntN(3)]
	for i := range t.Obs {
		var row []int
		for j := range t.Ent {
			c := most
			if j > 0 {
				c = min(c, row[j-1])
			}
			if i > 0 {
				c = min(c, t.R[i-1][j])
			}
			if r.IntN(3) > 0 {
				c -= r.IntN(c/2 + 1)
			}
			row = append(row, c)
		}
		t.R = append(t.R, row)
	}
	return t
}

// someSlope returns a slope at one of slopes, beside it, between them or outside of them.
func someSlope(r *rand.Rand, slopes []int) int {
	one := slopes[r.IntN(len(slopes))]
	last := slopes[len(slopes)-1]
	switch r.IntN(4) {
	case 0:
		return one
	case 1:
		return max(0, one+r.IntN(5)-2)
	case 2:
		return r.IntN(last + 1)
	}
	return r.IntN(last + last/4 + 2)
}

// someScene returns a valid scene, mostly one in which something is seen.
func someScene(r *rand.Rand) api.Scene {
	return api.Scene{
		Rise:  r.IntN([]int{100, 1000, 5001}[r.IntN(3)]),
		Side:  r.IntN([]int{100, 5000, 50001}[r.IntN(3)]),
		Turn:  r.IntN([]int{1, 1000, 1000001}[r.IntN(3)]),
		Power: r.IntN(100001),
	}
}
