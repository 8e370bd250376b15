package cut

import (
	"slices"
	"strconv"
	"strings"

	"blazon/api"
)

// Parse returns the tree of the text of a cut.
func Parse(text string) (api.Cut, api.Errno) {
	if len(text) > api.MaxText4 {
		return api.Cut{}, api.ErrDeep
	}
	r := reader{rest: text}
	t, ok := r.cut()
	if !ok || r.rest != "" {
		return api.Cut{}, api.ErrForm
	}
	if deep(t, 1, map[list]int{}) {
		return api.Cut{}, api.ErrDeep
	}
	return t, api.OK
}

// reader reads a text from its front.
type reader struct {
	rest string
}

// cut reads the text of a cut, and reports whether there is one.
func (r *reader) cut() (api.Cut, bool) {
	switch {
	case r.take("_"):
		return api.Cut{Op: api.CutWaste}, true
	case r.take("h "): // without the space, h and v are pieces
		return r.parts(api.CutH)
	case r.take("v "):
		return r.parts(api.CutV)
	}
	if r.rest == "" || !letter(r.rest[0]) {
		return api.Cut{}, false
	}
	piece := r.rest[0]
	r.rest = r.rest[1:]
	return api.Cut{Op: api.CutPiece, Piece: piece}, true
}

// parts reads what follows the letter of a cut through a rectangle.
func (r *reader) parts(op int) (api.Cut, bool) {
	n, ok := r.number()
	if !ok || !r.take(" (") {
		return api.Cut{}, false
	}
	a, ok := r.cut()
	if !ok || !r.take(", ") {
		return api.Cut{}, false
	}
	b, ok := r.cut()
	if !ok || !r.take(")") {
		return api.Cut{}, false
	}
	return api.Cut{Op: op, N: n, Parts: []api.Cut{a, b}}, true
}

// number reads a number from 1 to MaxPlate that has no leading zeros.
func (r *reader) number() (int, bool) {
	if strings.HasPrefix(r.rest, "0") {
		return 0, false
	}
	n := 0
	for r.rest != "" && between(int(r.rest[0]), '0', '9') && n <= api.MaxPlate {
		n = 10*n + int(r.rest[0]-'0')
		r.rest = r.rest[1:]
	}
	return n, between(n, 1, api.MaxPlate)
}

// take reads a word, and reports whether it comes next.
func (r *reader) take(word string) bool {
	rest, ok := strings.CutPrefix(r.rest, word)
	r.rest = rest
	return ok
}

// Format returns the text of a tree.
func Format(t api.Cut) (string, api.Errno) {
	if deep(t, 1, map[list]int{}) {
		return "", api.ErrDeep
	}
	if !formed(t) {
		return "", api.ErrForm
	}
	text := write(nil, t)
	if len(text) > api.MaxText4 {
		return "", api.ErrDeep
	}
	return string(text), api.OK
}

// list is a list of parts, told by where it lies.
type list struct {
	first  *api.Cut
	length int
}

// deep reports whether t, which has some level, has a level above MaxLevel. It does not look below such a level, nor again
// at a list of parts that it knows from the same level or a higher one: so it ends for a tree that is among its own parts,
// and soon for one in which many nodes share their parts.
func deep(t api.Cut, level int, known map[list]int) bool {
	if level > api.MaxLevel || len(t.Parts) == 0 {
		return level > api.MaxLevel
	}
	parts := list{&t.Parts[0], len(t.Parts)}
	if level <= known[parts] {
		return false
	}
	known[parts] = level
	return slices.ContainsFunc(t.Parts, func(part api.Cut) bool { return deep(part, level+1, known) })
}

// formed reports whether t is the tree of a text, which need not be short enough.
func formed(t api.Cut) bool {
	switch t.Op {
	case api.CutWaste:
		return t.N == 0 && t.Piece == 0 && len(t.Parts) == 0
	case api.CutPiece:
		return t.N == 0 && letter(t.Piece) && len(t.Parts) == 0
	case api.CutH, api.CutV:
		return between(t.N, 1, api.MaxPlate) && t.Piece == 0 && len(t.Parts) == 2 &&
			!slices.ContainsFunc(t.Parts, func(part api.Cut) bool { return !formed(part) })
	}
	return false
}

// write appends the text of a tree to text.
func write(text []byte, t api.Cut) []byte {
	switch t.Op {
	case api.CutWaste:
		return append(text, '_')
	case api.CutPiece:
		return append(text, t.Piece)
	case api.CutH:
		text = append(text, "h "...)
	case api.CutV:
		text = append(text, "v "...)
	}
	text = strconv.AppendInt(text, int64(t.N), 10)
	text = write(append(text, " ("...), t.Parts[0])
	text = write(append(text, ", "...), t.Parts[1])
	return append(text, ')')
}

func letter(b byte) bool {
	return b >= 'a' && b <= 'z'
}
