package road_test

import (
	"math"
	"math/rand/v2"
	"slices"
	"testing"

	"blazon/api"
	"blazon/road"
)

// wrongDirs are numbers that are no direction.
func wrongDirs() []int {
	return []int{0, 2, -2, math.MinInt, math.MaxInt}
}

// wrongChains are numbers that are no chainage.
func wrongChains() []int {
	return []int{-1, maxChain + 1, math.MinInt, math.MaxInt}
}

// P6.6: Ahead.
func TestAhead(t *testing.T) {
	for _, c := range [][4]int{
		{1, 100, 300, 200}, {1, 300, 100, -200}, {-1, 100, 300, -200}, {-1, 300, 100, 200}, {1, 5, 5, 0}, {-1, 5, 5, 0},
		{1, 0, maxChain, maxChain}, {1, maxChain, 0, -maxChain}, {-1, 0, maxChain, -maxChain}, {-1, maxChain, 0, maxChain},
	} {
		if got, err := road.Ahead(c[0], c[1], c[2]); got != c[3] || err != api.OK {
			t.Errorf("Ahead of %v: %d, error %d", c, got, err)
		}
	}
	for _, dir := range wrongDirs() {
		if got, err := road.Ahead(dir, 1, 5); got != 0 || err != api.ErrArg {
			t.Errorf("Ahead in the direction %d: %d, error %d", dir, got, err)
		}
	}
	for _, c := range wrongChains() {
		for _, ends := range [][2]int{{c, 5}, {5, c}, {c, c}} {
			if got, err := road.Ahead(1, ends[0], ends[1]); got != 0 || err != api.ErrArg {
				t.Errorf("Ahead of %v: %d, error %d", ends, got, err)
			}
		}
	}
}

// P6.6: Warn, with the chapter's second example.
func TestWarn(t *testing.T) {
	for _, c := range []struct {
		danger, dir, speed int
		want               api.Span
	}{
		{1000, 1, 80, span(750, 851)},
		{1000, 1, 10, span(850, 951)},
		{1000, 1, 50, span(850, 951)},
		{1000, 1, 51, span(750, 851)},
		{1000, 1, 100, span(750, 851)},
		{1000, 1, 101, span(650, 751)},
		{1000, 1, 200, span(650, 751)},
		{1000, -1, 50, span(1050, 1151)},
		{1000, -1, 80, span(1150, 1251)},
		{1000, -1, 200, span(1250, 1351)},
		{0, -1, 50, span(50, 151)},
		{150, 1, 50, span(0, 101)},
		{149, 1, 50, span(0, 100)},
		{51, 1, 50, span(0, 2)},
		{50, 1, 50, span(0, 1)},
		{49, 1, 50, api.Span{}},
		{0, 1, 50, api.Span{}},
		{150, 1, 100, span(0, 1)},
		{149, 1, 100, api.Span{}},
		{250, 1, 101, span(0, 1)},
		{249, 1, 101, api.Span{}},
		{maxChain, 1, 200, span(maxChain-350, maxChain-249)},
		// chainages beyond the greatest one are not left out
		{maxChain, -1, 200, span(maxChain+250, maxChain+351)},
	} {
		if got, err := road.Warn(c.danger, c.dir, c.speed); got != c.want || err != api.OK {
			t.Errorf("Warn of %v: %v, error %d", c, got, err)
		}
	}
	for danger := range 400 {
		for _, speed := range []int{10, 50, 51, 100, 101, 200} {
			for _, dir := range []int{1, -1} {
				if got, err := road.Warn(danger, dir, speed); got != referenceWarn(danger, dir, speed) || err != api.OK {
					t.Errorf("Warn of %d, %d, %d: %v, error %d", danger, dir, speed, got, err)
				}
			}
		}
	}
}

// P6.6: the errors of Warn.
func TestWarnErrArg(t *testing.T) {
	var wrong [][3]int
	for _, dir := range wrongDirs() {
		wrong = append(wrong, [3]int{1000, dir, 80})
	}
	for _, danger := range wrongChains() {
		wrong = append(wrong, [3]int{danger, 1, 80}, [3]int{danger, -1, 80})
	}
	for _, speed := range []int{9, 0, -1, 201, math.MinInt, math.MaxInt} {
		wrong = append(wrong, [3]int{1000, 1, speed}, [3]int{0, 1, speed})
	}
	for _, c := range wrong {
		if got, err := road.Warn(c[0], c[1], c[2]); got != (api.Span{}) || err != api.ErrArg {
			t.Errorf("Warn of %v: %v, error %d", c, got, err)
		}
	}
}

// posts returns posts from their chainages, directions and sides.
func posts(rows ...[3]int) []api.Post {
	var all []api.Post
	for i, r := range rows {
		all = append(all, api.Post{Number: i + 1, Chain: r[0], Dir: r[1], Side: r[2]})
	}
	return all
}

// P6.7: Crowded.
func TestCrowded(t *testing.T) {
	row := posts([3]int{100, 1, 0}, [3]int{150, 1, 0}, [3]int{120, 1, 1}, [3]int{90, 1, 0}, [3]int{110, -1, 0}, [3]int{100, 1, 0}, [3]int{121, 1, 1})
	for _, c := range []struct {
		posts []api.Post
		gap   int
		want  [][2]int
	}{
		{row, 0, nil},
		{row, 1, [][2]int{{0, 5}}},
		{row, 2, [][2]int{{0, 5}, {2, 6}}},
		{row, 10, [][2]int{{0, 5}, {2, 6}}},
		{row, 11, [][2]int{{0, 3}, {0, 5}, {2, 6}, {3, 5}}},
		{row, 50, [][2]int{{0, 3}, {0, 5}, {2, 6}, {3, 5}}},
		{row, 51, [][2]int{{0, 1}, {0, 3}, {0, 5}, {1, 5}, {2, 6}, {3, 5}}},
		{row, 10000, [][2]int{{0, 1}, {0, 3}, {0, 5}, {1, 3}, {1, 5}, {2, 6}, {3, 5}}},
		{nil, 10, nil},
		{[]api.Post{}, 10, nil},
		{row[:1], 10, nil},
		{posts([3]int{0, -1, 1}, [3]int{10000, -1, 1}), 10000, nil},
		{posts([3]int{0, -1, 1}, [3]int{9999, -1, 1}), 10000, [][2]int{{0, 1}}},
		{posts([3]int{0, -1, 1}, [3]int{maxChain, -1, 1}), 10000, nil},
		{posts([3]int{maxChain, -1, 1}, [3]int{maxChain, -1, 1}), 1, [][2]int{{0, 1}}},
		// the number of a post may be any one
		{[]api.Post{{Number: math.MinInt, Dir: 1}, {Number: math.MaxInt, Dir: 1}, {Number: math.MaxInt, Dir: 1, Chain: 1}}, 1, [][2]int{{0, 1}}},
	} {
		if got, err := road.Crowded(c.posts, c.gap); !slices.Equal(got, c.want) || err != api.OK {
			t.Errorf("Crowded of %v, %d: %v, error %d", c.posts, c.gap, got, err)
		}
	}
	if got, err := road.Crowded(slices.Repeat(row[:1], 200), 1); len(got) != 200*199/2 || err != api.OK {
		t.Errorf("Crowded of 200 posts: %d pairs, error %d", len(got), err)
	}
}

// wrongPosts returns posts that are not as described, for one reason each.
func wrongPosts() []api.Post {
	all := []api.Post{{}}
	for _, c := range wrongChains() {
		all = append(all, api.Post{Chain: c, Dir: 1})
	}
	for _, dir := range wrongDirs() {
		all = append(all, api.Post{Chain: 5, Dir: dir})
	}
	for _, side := range []int{-1, 2, math.MinInt, math.MaxInt} {
		all = append(all, api.Post{Chain: 5, Dir: 1, Side: side})
	}
	return all
}

// P6.7: the errors of Crowded.
func TestCrowdedErrArg(t *testing.T) {
	good := posts([3]int{5, 1, 0}, [3]int{6, 1, 0})
	for _, gap := range []int{-1, 10001, math.MinInt, math.MaxInt} {
		for _, l := range [][]api.Post{nil, good} {
			if got, err := road.Crowded(l, gap); len(got) != 0 || err != api.ErrArg {
				t.Errorf("Crowded with the gap %d: %v, error %d", gap, got, err)
			}
		}
	}
	if got, err := road.Crowded(slices.Repeat(good[:1], 201), 10); len(got) != 0 || err != api.ErrArg {
		t.Errorf("Crowded of 201 posts: %d pairs, error %d", len(got), err)
	}
	for _, wrong := range wrongPosts() {
		for at := range 3 {
			if got, err := road.Crowded(slices.Insert(slices.Clone(good), at, wrong), 10); len(got) != 0 || err != api.ErrArg {
				t.Errorf("Crowded with the post %v: %v, error %d", wrong, got, err)
			}
		}
	}
}

// walls returns walls from their sides and ends.
func walls(rows ...[3]int) []api.Wall {
	var all []api.Wall
	for _, r := range rows {
		all = append(all, api.Wall{Side: r[0], From: r[1], To: r[2]})
	}
	return all
}

// P6.8: Sight, with the chapter's third example.
func TestSight(t *testing.T) {
	up, down := api.Post{Chain: 500, Dir: 1}, api.Post{Chain: 500, Dir: -1, Side: 1}
	for _, c := range []struct {
		post  api.Post
		walls []api.Wall
		far   int
		want  int
	}{
		{up, walls([3]int{0, 300, 320}), 400, 180},
		{up, nil, 400, 400},
		{up, []api.Wall{}, 400, 400},
		{up, nil, 0, 0},
		{up, nil, 500, 500},
		{up, nil, 501, 500}, // the car would stand below 0
		{up, nil, 10000, 500},
		{api.Post{Dir: 1}, nil, 400, 0},
		{up, walls([3]int{0, 300, 320}), 179, 179},
		{up, walls([3]int{0, 300, 320}), 180, 180},
		{up, walls([3]int{0, 300, 320}), 181, 180},
		{up, walls([3]int{1, 300, 320}), 400, 400}, // on the other side
		{up, walls([3]int{0, 320, 320}), 400, 180}, // a wall of one place
		{up, walls([3]int{0, 0, 100}), 400, 400},
		{up, walls([3]int{0, 0, 101}), 400, 399},
		{up, walls([3]int{0, 500, 500}), 400, 400}, // at the post, not in front of it
		{up, walls([3]int{0, 500, 600}), 400, 400},
		{up, walls([3]int{0, 501, 600}), 400, 400},
		{up, walls([3]int{0, 499, 499}), 400, 1},
		{up, walls([3]int{0, 499, 500}), 400, 0}, // the places between the whole ones hide it
		{up, walls([3]int{0, 0, maxChain}), 400, 0},
		{up, walls([3]int{0, 400, 500}), 400, 0},
		{up, walls([3]int{0, 100, 200}, [3]int{0, 350, 360}, [3]int{0, 210, 300}), 400, 140},
		{down, walls([3]int{1, 680, 700}), 400, 180},
		{down, walls([3]int{0, 680, 700}), 400, 400},
		{down, walls([3]int{1, 900, 900}), 400, 400},
		{down, walls([3]int{1, 899, 900}), 400, 399},
		{down, walls([3]int{1, 500, 500}), 400, 400},
		{down, walls([3]int{1, 0, 500}), 400, 400},
		{down, walls([3]int{1, 0, 501}), 400, 0},
		{down, walls([3]int{1, 501, 501}), 400, 1},
		{down, walls([3]int{1, 500, 501}), 400, 0},
		{down, nil, 10000, 10000},
		{api.Post{Chain: maxChain, Dir: -1}, nil, 10000, 10000},
		{api.Post{Chain: maxChain, Dir: -1}, walls([3]int{0, maxChain, maxChain}), 10000, 10000},
		{api.Post{Chain: maxChain, Dir: 1}, walls([3]int{0, 0, maxChain - 10000}), 10000, 10000},
		{api.Post{Chain: maxChain, Dir: 1}, walls([3]int{0, 0, maxChain - 9999}), 10000, 9999},
		{api.Post{Number: math.MinInt, Chain: 500, Dir: 1}, slices.Repeat(walls([3]int{0, 300, 320}), 200), 400, 180},
	} {
		if got, err := road.Sight(c.post, c.walls, c.far); got != c.want || err != api.OK {
			t.Errorf("Sight of %v with %v, %d: %d, error %d, not %d", c.post, c.walls, c.far, got, err, c.want)
		}
	}
}

// P6.8: the errors of Sight.
func TestSightErrArg(t *testing.T) {
	post, good := api.Post{Chain: 500, Dir: 1}, walls([3]int{0, 300, 320}, [3]int{1, 1, 2})
	refused := func(p api.Post, w []api.Wall, far int) {
		t.Helper()
		if got, err := road.Sight(p, w, far); got != 0 || err != api.ErrArg {
			t.Errorf("Sight of %v with %v, %d: %d, error %d", p, w, far, got, err)
		}
	}
	for _, p := range wrongPosts() {
		refused(p, nil, 400)
		refused(p, good, 400)
	}
	for _, far := range []int{-1, 10001, math.MinInt, math.MaxInt} {
		refused(post, good, far)
	}
	refused(post, slices.Repeat(good[:1], 201), 400)
	for _, w := range [][3]int{
		{-1, 1, 2}, {2, 1, 2}, {math.MinInt, 1, 2}, {math.MaxInt, 1, 2}, {0, -1, 2}, {0, 2, 1}, {0, 1, maxChain + 1},
		{0, maxChain + 1, maxChain + 1}, {0, -2, -1}, {0, math.MinInt, math.MaxInt}, {0, math.MaxInt, math.MinInt}, {1, 0, -1},
	} {
		for at := range 3 {
			refused(post, slices.Insert(slices.Clone(good), at, walls(w)[0]), 400)
		}
	}
}

// someWalls returns at most four walls along the first metres.
func someWalls(r *rand.Rand) []api.Wall {
	var all []api.Wall
	for range r.IntN(5) {
		from := r.IntN(40)
		all = append(all, api.Wall{Side: r.IntN(2), From: from, To: upTo(r, from, from+8)})
	}
	return all
}

// P6.7, P6.8: posts and walls are as the second way says.
func TestSomePosts(t *testing.T) {
	r := rand.New(rand.NewPCG(6, 7))
	some := func() api.Post {
		return api.Post{Number: r.IntN(9), Chain: upTo(r, 0, 45), Dir: 1 - 2*r.IntN(2), Side: r.IntN(2)}
	}
	for range 4000 {
		post, w, far := some(), someWalls(r), upTo(r, 0, 60)
		if got, err := road.Sight(post, w, far); got != referenceSight(post, w, far) || err != api.OK {
			t.Fatalf("Sight of %v with %v, %d: %d, error %d", post, w, far, got, err)
		}
		var all []api.Post
		for range r.IntN(12) {
			all = append(all, some())
		}
		gap := upTo(r, 0, 30)
		if got, err := road.Crowded(all, gap); !slices.Equal(got, referenceCrowded(all, gap)) || err != api.OK {
			t.Fatalf("Crowded of %v, %d: %v, error %d", all, gap, got, err)
		}
	}
}

// P6.13: more walls let a post be seen from no farther away, and walls behind it take nothing away.
func TestMoreWalls(t *testing.T) {
	r := rand.New(rand.NewPCG(6, 13))
	for range 3000 {
		post := api.Post{Chain: upTo(r, 0, 45), Dir: 1 - 2*r.IntN(2), Side: r.IntN(2)}
		few, more, far := someWalls(r), someWalls(r), upTo(r, 0, 60)
		before, _ := road.Sight(post, few, far)
		if after, err := road.Sight(post, slices.Concat(few, more), far); after > before || err != api.OK {
			t.Fatalf("%v with %v: %d; with %v too: %d, error %d", post, few, before, more, after, err)
		}
		behind := slices.DeleteFunc(more, func(w api.Wall) bool {
			return post.Dir == 1 && w.From < post.Chain || post.Dir == -1 && w.To > post.Chain
		})
		if after, err := road.Sight(post, slices.Concat(few, behind), far); after != before || err != api.OK {
			t.Fatalf("%v with %v: %d; with %v behind it: %d, error %d", post, few, before, behind, after, err)
		}
		post.Chain += far // from there on, the car has room
		if seen, err := road.Sight(post, nil, far); seen != far || err != api.OK {
			t.Fatalf("%v without walls: %d of %d, error %d", post, seen, far, err)
		}
	}
}

// R4: posts and walls are read up to their length alone, and not changed.
func TestPostsStay(t *testing.T) {
	p := append(posts([3]int{30, 1, 0}, [3]int{10, 1, 0}), api.Post{})[:2]
	w := append(walls([3]int{0, 5, 6}, [3]int{0, 1, 2}), api.Wall{Side: -7})[:2]
	pairs, e1 := road.Crowded(p, 100)
	seen, e2 := road.Sight(p[0], w, 100)
	if len(pairs) != 1 || seen != 24 || e1 != api.OK || e2 != api.OK {
		t.Errorf("%v, error %d; %d, error %d", pairs, e1, seen, e2)
	}
	if !slices.Equal(p[:3], append(posts([3]int{30, 1, 0}, [3]int{10, 1, 0}), api.Post{})) ||
		!slices.Equal(w[:3], append(walls([3]int{0, 5, 6}, [3]int{0, 1, 2}), api.Wall{Side: -7})) {
		t.Errorf("the arguments became %v, %v", p[:3], w[:3])
	}
}
