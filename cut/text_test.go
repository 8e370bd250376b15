package cut_test

import (
	"math"
	"math/rand/v2"
	"slices"
	"strings"
	"testing"

	"blazon/api"
	"blazon/cut"
)

func piece(letter byte) api.Cut {
	return api.Cut{Op: api.CutPiece, Piece: letter}
}

func through(op, n int, parts ...api.Cut) api.Cut {
	return api.Cut{Op: op, N: n, Parts: parts}
}

// nested returns a text with a level, in which the last parts are nested.
func nested(level int) string {
	return strings.Repeat("h 1 (a, ", level-1) + "b" + strings.Repeat(")", level-1)
}

// nestedFirst returns a text with a level, in which the first parts are nested.
func nestedFirst(level int) string {
	return strings.Repeat("v 1 (", level-1) + "b" + strings.Repeat(", _)", level-1)
}

// long returns a text of a cut that has a number of bytes and few levels.
func long(bytes int) string {
	var cuts func(n int) string
	cuts = func(n int) string {
		if n == 0 {
			return "_"
		}
		return "v 1 (" + cuts((n-1)/2) + ", " + cuts(n/2) + ")"
	}
	// each cut has 9 bytes more than what it replaces, and one more with the number 10
	return strings.Replace(cuts((bytes-1)/9), " 1 ", " 10 ", (bytes-1)%9)
}

// P4.7: Parse.
func TestParse(t *testing.T) {
	for text, want := range map[string]api.Cut{
		"_":                     {},
		"a":                     piece('a'),
		"z":                     piece('z'),
		"h":                     piece('h'),
		"v":                     piece('v'),
		"h 1 (h, v)":            through(api.CutH, 1, piece('h'), piece('v')),
		"v 1000 (_, _)":         through(api.CutV, 1000, api.Cut{}, api.Cut{}),
		"h 30 (v 40 (a, _), b)": through(api.CutH, 30, through(api.CutV, 40, piece('a'), api.Cut{}), piece('b')),
		"v 12 (c, h 345 (_, v 999 (y, x)))": through(api.CutV, 12, piece('c'),
			through(api.CutH, 345, api.Cut{}, through(api.CutV, 999, piece('y'), piece('x')))),
	} {
		if tree, e := cut.Parse(text); !sameTree(tree, want) || e != api.OK {
			t.Errorf("Parse(%q): %v, error %d", text, tree, e)
		}
		if back, e := cut.Format(want); back != text || e != api.OK {
			t.Errorf("Format(%v): %q, error %d", want, back, e)
		}
	}
}

// malformed are texts that are none of a cut.
func malformed() []string {
	texts := []string{
		"", " ", "A", "Z", "`", "{", "0", "1", "aa", "__", "a ", " a", "a\n", "_ ", "é", "\x00", "\xff", "h ", "v ", "hv",
		"(a, b)", "h 1", "h 1 ", "h 1 (", "h 1 (a", "h 1 (a,", "h 1 (a, ", "h 1 (a, b", "h 1 (a, b))", "h 1 (a, b) ",
		"h 1 (a, b, c)", "h 1 (a)", "h 1 ()", "h 1 (, )", "h1 (a, b)", "h 1(a, b)", "h  1 (a, b)", "h 1  (a, b)",
		"h 1 ( a, b)", "h 1 (a , b)", "h 1 (a,b)", "h 1 (a,  b)", "h 1 (a, b )", "h\t1 (a, b)", "H 1 (a, b)", "x 1 (a, b)",
		"h (a, b)", "h  (a, b)", "h 0 (a, b)", "h 00 (a, b)", "h 01 (a, b)", "h 0001 (a, b)", "h 1001 (a, b)", "h 9999 (a, b)",
		"h 10000 (a, b)", "h 01000 (a, b)", "h -1 (a, b)", "h +1 (a, b)", "h 1.0 (a, b)", "h 1e2 (a, b)", "h a (a, b)",
		"h 1: (a, b)", "h 1/ (a, b)", "h ١ (a, b)", "h 18446744073709551617 (a, b)", "h 99999999999999999999999 (a, b)",
		"h 1 [a, b]", "h 1 (a; b)", "h 1 (A, b)", "h 1 (a, B)", "h 1 (aa, b)", "h 1 (a, bb)", "h 1 (a, h 2 (b, c)",
		"h 1 (h 2 (b, c), a", "h 1 (h 0 (b, c), a)", "h 1 (a, v 1001 (b, c))", "v 1 (h (a, b), c)", "v 1 (h , c)",
		"a, b", "a)", "_)", "h 1 (a, b)a", "h 1 (a, b)h 1 (a, b)",
	}
	whole := "v 1000 (h 30 (a, _), b)"
	for i := range whole {
		texts = append(texts, whole[:i]+" "+whole[i:])
		if i != 1 { // the first letter alone is a piece
			texts = append(texts, whole[:i])
		}
		if whole[i] < '0' || whole[i] > '9' {
			texts = append(texts, whole[:i]+whole[i+1:], whole[:i]+whole[i:i+1]+whole[i:])
		}
	}
	return texts
}

// P4.7: Parse returns ErrForm, also for texts that are cut off or have one byte too many.
func TestParseForm(t *testing.T) {
	for _, text := range malformed() {
		if tree, e := cut.Parse(text); !sameTree(tree, api.Cut{}) || e != api.ErrForm {
			t.Errorf("Parse(%q): %v, error %d", text, tree, e)
		}
	}
}

// P4.7: the errors of Parse for long and deep texts, in their order.
func TestParseDeep(t *testing.T) {
	for _, c := range []struct {
		text string
		want api.Errno
	}{
		{long(2000), api.OK},
		{long(2001), api.ErrDeep},
		{long(1999), api.OK},
		{strings.Repeat("a", 2000), api.ErrForm},
		{strings.Repeat("a", 2001), api.ErrDeep},
		{strings.Repeat("?", 1<<20), api.ErrDeep},
		{nested(20), api.OK},
		{nested(21), api.ErrDeep},
		{nestedFirst(20), api.OK},
		{nestedFirst(21), api.ErrDeep},
		{nested(200), api.ErrDeep},
		{nestedFirst(200), api.ErrDeep},
		{"h 1 (" + nested(19) + ", " + nestedFirst(19) + ")", api.OK},
		{"h 1 (" + nested(20) + ", " + nestedFirst(3) + ")", api.ErrDeep},
		{"h 1 (" + nested(3) + ", " + nestedFirst(20) + ")", api.ErrDeep},
		{nested(21) + ")", api.ErrForm},
		{nested(21)[1:], api.ErrForm},
		{strings.Repeat("h 1 (", 400), api.ErrForm},
		{strings.Repeat("h 1 (", 401), api.ErrDeep},
		{strings.Repeat("(", 2000), api.ErrForm},
		{strings.Repeat("h 1 (a, ", 21) + "b" + strings.Repeat(")", 20), api.ErrForm},
	} {
		if tree, e := cut.Parse(c.text); e != c.want || e != api.OK && !sameTree(tree, api.Cut{}) {
			t.Errorf("Parse(%.50q .., %d bytes): error %d, not %d", c.text, len(c.text), e, c.want)
		}
	}
}

// P4.7: Parse is as the second way says for texts of which some bytes were changed; R1: it never panics.
func TestParseOfSomeTexts(t *testing.T) {
	random := rand.New(rand.NewPCG(4, 7))
	const alphabet = "hhvv  __((,,))0199az.A"
	for range 60000 {
		text := []byte(plainText(someTree(random, 1+random.IntN(6))))
		for range random.IntN(4) {
			at := random.IntN(len(text) + 1)
			b := alphabet[random.IntN(len(alphabet))]
			switch random.IntN(4) {
			case 0:
				text = append(text[:at:at], append([]byte{b}, text[at:]...)...)
			case 1:
				text = text[:at]
			default:
				if at < len(text) {
					text[at] = b
				}
			}
		}
		tree, e := cut.Parse(string(text))
		if want := referenceError(string(text)); e != want {
			t.Fatalf("Parse(%q): error %d, not %d", text, e, want)
		}
		if e == api.OK && plainText(tree) != string(text) {
			t.Fatalf("Parse(%q): %v", text, tree)
		}
	}
}

// P4.12: Parse of Format gives the tree, Format of Parse the text.
func TestTexts(t *testing.T) {
	random := rand.New(rand.NewPCG(4, 12))
	for range 5000 {
		tree := someTree(random, 1+random.IntN(8))
		want := plainText(tree)
		text, e := cut.Format(tree)
		if len(want) > 2000 {
			if text != "" || e != api.ErrDeep {
				t.Fatalf("Format of a tree with a text of %d bytes: %q, error %d", len(want), text, e)
			}
			continue
		}
		if text != want || e != api.OK {
			t.Fatalf("Format(%v): %q, error %d", tree, text, e)
		}
		back, e := cut.Parse(text)
		if !sameTree(back, tree) || e != api.OK {
			t.Fatalf("Parse(%q): %v, error %d", text, back, e)
		}
	}
	for _, text := range []string{long(1999), long(2000), nested(20), nestedFirst(20)} {
		tree, e := cut.Parse(text)
		if e != api.OK {
			t.Fatalf("Parse(%q): error %d", text, e)
		}
		if back, e := cut.Format(tree); back != text || e != api.OK {
			t.Errorf("Format of Parse(%q): %q, error %d", text, back, e)
		}
	}
}

// P4.7: Format returns ErrForm, wherever in the tree.
func TestFormatForm(t *testing.T) {
	var trees []api.Cut
	for _, op := range []int{-1, 4, 5, math.MinInt, math.MaxInt} {
		trees = append(trees, api.Cut{Op: op}, through(op, 1, piece('a'), piece('a')), api.Cut{Op: op, Piece: 'a'})
	}
	for _, n := range []int{-1, 1, 1000, math.MinInt, math.MaxInt} {
		trees = append(trees, api.Cut{N: n}, api.Cut{Op: api.CutPiece, N: n, Piece: 'a'})
	}
	for _, b := range []byte{1, 'A', 'Z', '_', 'a' - 1, 'z' + 1, '0', ' ', 0x80, 0xff} {
		trees = append(trees, piece(b), api.Cut{Piece: b})
	}
	trees = append(trees, piece(0), api.Cut{Piece: 'a'})
	part := piece('p')
	trees = append(trees, through(api.CutWaste, 0, part), through(api.CutWaste, 0, part, part))
	trees = append(trees, api.Cut{Op: api.CutPiece, Piece: 'a', Parts: []api.Cut{part}}, api.Cut{Op: api.CutPiece, Piece: 'a', Parts: []api.Cut{part, part}})
	for _, op := range []int{api.CutH, api.CutV} {
		for _, n := range []int{-1, 0, 1001, math.MinInt, math.MaxInt} {
			trees = append(trees, through(op, n, part, part))
		}
		trees = append(trees, through(op, 1), through(op, 1, part), through(op, 1, part, part, part))
		trees = append(trees, api.Cut{Op: op, N: 1, Parts: []api.Cut{part, part, part}[:1]})
		trees = append(trees, api.Cut{Op: op, N: 1, Piece: 'a', Parts: []api.Cut{part, part}})
		trees = append(trees, api.Cut{Op: op, N: 1, Piece: 1, Parts: []api.Cut{part, part}})
	}
	for _, bad := range trees {
		for _, tree := range []api.Cut{
			bad, through(api.CutH, 1, bad, part), through(api.CutV, 1, part, bad),
			through(api.CutV, 1, part, through(api.CutV, 1, through(api.CutH, 1, part, bad), part)),
		} {
			if text, e := cut.Format(tree); text != "" || e != api.ErrForm {
				t.Errorf("Format(%v): %q, error %d", tree, text, e)
			}
		}
	}
	for _, tree := range []api.Cut{
		{Parts: []api.Cut{}}, {Op: api.CutPiece, Piece: 'a', Parts: []api.Cut{}},
		{Op: api.CutH, N: 1, Parts: []api.Cut{part, part, {Op: 9}}[:2]}, {Parts: []api.Cut{{Op: 9}}[:0]},
	} {
		if _, e := cut.Format(tree); e != api.OK {
			t.Errorf("Format(%v): error %d", tree, e)
		}
	}
}

// chain returns a tree with a level, made of nodes that have the last one as their last part.
func chain(level int, node, last api.Cut, before ...api.Cut) api.Cut {
	t := last
	for range level - 1 {
		parent := node
		parent.Parts = append(append([]api.Cut{}, before...), t)
		t = parent
	}
	return t
}

// P4.7: the errors of Format for long and deep trees, in their order: levels are counted along the Parts of every node.
func TestFormatDeep(t *testing.T) {
	h := api.Cut{Op: api.CutH, N: 1}
	bad := api.Cut{Op: 9}
	full := func(level int) api.Cut {
		tree := piece('a')
		for range level - 1 {
			tree = through(api.CutV, 1, tree, tree)
		}
		return tree
	}
	wide := func(level int) api.Cut {
		tree := api.Cut{Op: api.CutH, N: 1}
		for range level - 1 {
			tree.Parts = slices.Repeat([]api.Cut{tree}, 100)
		}
		return tree
	}
	shared := wide(18) // stands in a higher level first, and then in a lower one
	own := []api.Cut{h, h}
	own[0].Parts, own[1].Parts = own, own
	ownLast := []api.Cut{piece('a'), h}
	ownLast[1].Parts = ownLast
	ownBad := []api.Cut{bad}
	ownBad[0].Parts = ownBad
	for _, c := range []struct {
		tree api.Cut
		want api.Errno
	}{
		{chain(20, h, piece('a'), piece('b')), api.OK},
		{chain(21, h, piece('a'), piece('b')), api.ErrDeep},
		{chain(20, bad, piece('a')), api.ErrForm},
		{chain(21, bad, piece('a')), api.ErrDeep},
		{chain(20, api.Cut{}, bad), api.ErrForm},
		{chain(21, api.Cut{}, bad), api.ErrDeep},
		{chain(21, piece('a'), bad), api.ErrDeep},
		{chain(20, piece('a'), piece('a')), api.ErrForm},
		{chain(20, h, bad, piece('b')), api.ErrForm},
		{chain(21, h, bad, piece('b')), api.ErrDeep},
		{chain(5000, h, bad, piece('b')), api.ErrDeep},
		{through(api.CutH, 1, bad, chain(20, h, piece('a'), piece('b'))), api.ErrDeep},
		{through(api.CutH, 1, chain(20, h, piece('a'), piece('b')), bad), api.ErrDeep},
		{through(api.CutH, 1, piece('a'), piece('b'), chain(20, h, piece('a'), piece('b'))), api.ErrDeep},
		{full(8), api.OK}, // 127 cuts of 8 bytes and 128 letters
		{full(9), api.ErrDeep},
		{full(20), api.ErrDeep},
		{through(api.CutV, 1, full(9), bad), api.ErrForm},
		{wide(20), api.ErrForm}, // 100 nodes share the same 100 parts, level by level
		{wide(21), api.ErrDeep},
		{through(api.CutV, 1, wide(3), wide(20)), api.ErrDeep},
		{through(api.CutV, 1, shared, through(api.CutV, 1, shared, shared)), api.ErrForm},
		{through(api.CutV, 1, shared, through(api.CutV, 1, shared, through(api.CutV, 1, shared, shared))), api.ErrDeep},
		{api.Cut{Op: api.CutH, N: 1, Parts: own}, api.ErrDeep},
		{api.Cut{Op: api.CutH, N: 1, Parts: ownLast}, api.ErrDeep},
		{api.Cut{Parts: ownBad}, api.ErrDeep},
	} {
		if text, e := cut.Format(c.tree); e != c.want || e != api.OK && text != "" {
			t.Errorf("Format: error %d, not %d", e, c.want)
		}
	}
	for _, bytes := range []int{1999, 2000, 2001, 2002} {
		want := api.OK
		if bytes > 2000 {
			want = api.ErrDeep
		}
		// the text of both parts is parsed, and put together to a tree whose text has the bytes
		a, e1 := cut.Parse(long(990))
		b, e2 := cut.Parse(long(bytes - 990 - 8))
		if text, e := cut.Format(through(api.CutV, 1, a, b)); e1 != api.OK || e2 != api.OK || e != want || want == api.OK && len(text) != bytes {
			t.Errorf("Format to %d bytes: error %d", bytes, e)
		}
	}
}

// R4: a tree is new memory, and Format leaves its tree as it is.
func TestTreeMemory(t *testing.T) {
	const text = "h 3 (v 4 (a, b), v 4 (a, b))"
	one, _ := cut.Parse(text)
	two, _ := cut.Parse(text)
	_ = append(one.Parts[0].Parts, piece('x'))
	one.Parts[0].Parts[0] = piece('y')
	one.Parts[1].N = 9
	if plainText(one) != "h 3 (v 4 (y, b), v 9 (a, b))" || plainText(two) != text {
		t.Errorf("trees share memory: %s, %s", plainText(one), plainText(two))
	}
	if s, e := cut.Format(two); s != text || e != api.OK || plainText(two) != text {
		t.Errorf("Format: %q, error %d", s, e)
	}
}
