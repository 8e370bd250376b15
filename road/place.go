package road

import (
	"slices"

	"blazon/api"
)

// The limits of what stands along a road.
const (
	minSpeed = 10
	maxSpeed = 200
	maxPosts = 200
	maxWalls = 200
	maxGap   = 10000
	maxFar   = 10000
)

// warnRoom is by how much a warning sign may stand farther ahead than it must.
const warnRoom = 100

// Ahead returns how far to lies ahead of from in a direction.
func Ahead(dir, from, to int) (int, api.Errno) {
	if !isDir(dir) || !within(0, api.MaxChain, from, to) {
		return 0, api.ErrArg
	}
	return dir * (to - from), api.OK
}

// Warn returns the chainages at which a warning sign for a danger may stand.
func Warn(danger, dir, speed int) (api.Span, api.Errno) {
	if !isDir(dir) || !within(0, api.MaxChain, danger) || !within(minSpeed, maxSpeed, speed) {
		return api.Span{}, api.ErrArg
	}
	nearest := danger - dir*warnDistance(speed)
	farthest := nearest - dir*warnRoom
	first, last := max(min(nearest, farthest), 0), max(nearest, farthest)
	if last < 0 {
		return api.Span{}, api.OK
	}
	return api.Span{From: first, To: last + 1}, api.OK
}

// warnDistance returns how far ahead of the danger its warning sign stands at least.
func warnDistance(speed int) int {
	switch {
	case speed <= 50:
		return 50
	case speed <= 100:
		return 150
	}
	return 250
}

// Crowded returns the pairs of posts of one direction and side that are less than gap metres from each other.
func Crowded(posts []api.Post, gap int) ([][2]int, api.Errno) {
	wrong := func(p api.Post) bool { return !postValid(p) }
	if len(posts) > maxPosts || slices.ContainsFunc(posts, wrong) || !within(0, maxGap, gap) {
		return nil, api.ErrArg
	}
	var pairs [][2]int
	for i, p := range posts {
		for k := i + 1; k < len(posts); k++ {
			q := posts[k]
			if p.Dir == q.Dir && p.Side == q.Side && max(p.Chain, q.Chain)-min(p.Chain, q.Chain) < gap {
				pairs = append(pairs, [2]int{i, k})
			}
		}
	}
	return pairs, api.OK
}

// Sight returns from how far a post is seen.
func Sight(post api.Post, walls []api.Wall, far int) (int, api.Errno) {
	wrong := func(w api.Wall) bool { return !wallValid(w) }
	if !postValid(post) || !within(0, maxFar, far) || len(walls) > maxWalls || slices.ContainsFunc(walls, wrong) {
		return 0, api.ErrArg
	}
	seen := far
	if post.Dir == 1 {
		seen = min(seen, post.Chain)
	}
	for _, w := range walls {
		near, end := inFront(post, w)
		// Of the places of a wall in front of the post, the nearest one hides it first; it may lie between whole numbers.
		if w.Side == post.Side && end > 0 {
			seen = min(seen, max(near, 0))
		}
	}
	return seen, api.OK
}

// inFront returns from how many to how many metres in front of a post a wall stands; behind the post they are negative.
func inFront(post api.Post, w api.Wall) (near, end int) {
	from, to := post.Dir*(post.Chain-w.From), post.Dir*(post.Chain-w.To)
	return min(from, to), max(from, to)
}

func postValid(p api.Post) bool {
	return within(0, api.MaxChain, p.Chain) && isDir(p.Dir) && isSide(p.Side)
}

func wallValid(w api.Wall) bool {
	return isSide(w.Side) && within(0, api.MaxChain, w.From, w.To) && w.From <= w.To
}

func isDir(dir int) bool {
	return dir == 1 || dir == -1
}

func isSide(side int) bool {
	return side == 0 || side == 1
}
