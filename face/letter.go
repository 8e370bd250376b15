package face

import "blazon/api"

// The measures of a letter, in squares; letterStep is from the beginning of a letter to that of the next one.
const (
	letterWidth  = 5
	letterHeight = 7
	letterStep   = 6
)

// letters have the squares of the digits and then of the letters from A to Z: a byte for each row, from the uppermost
// one on, as the document writes them.
var letters = [36]uint64{
	0x0E_11_13_15_19_11_0E, // 0
	0x04_0C_04_04_04_04_0E,
	0x0E_11_01_02_04_08_1F,
	0x1F_02_04_02_01_11_0E,
	0x02_06_0A_12_1F_02_02,
	0x1F_10_1E_01_01_11_0E,
	0x06_08_10_1E_11_11_0E,
	0x1F_01_02_04_08_08_08,
	0x0E_11_11_0E_11_11_0E,
	0x0E_11_11_0F_01_02_0C,
	0x0E_11_11_11_1F_11_11, // A
	0x1E_11_11_1E_11_11_1E,
	0x0E_11_10_10_10_11_0E,
	0x1C_12_11_11_11_12_1C,
	0x1F_10_10_1E_10_10_1F,
	0x1F_10_10_1E_10_10_10,
	0x0E_11_10_17_11_11_0F,
	0x11_11_11_1F_11_11_11,
	0x0E_04_04_04_04_04_0E,
	0x07_02_02_02_02_12_0C,
	0x11_12_14_18_14_12_11, // K
	0x10_10_10_10_10_10_1F,
	0x11_1B_15_15_11_11_11,
	0x11_11_19_15_13_11_11,
	0x0E_11_11_11_11_11_0E,
	0x1E_11_11_1E_10_10_10,
	0x0E_11_11_11_15_12_0D,
	0x1E_11_11_1E_14_12_11,
	0x0F_10_10_0E_01_01_1E,
	0x1F_04_04_04_04_04_04,
	0x11_11_11_11_11_11_0E, // U
	0x11_11_11_11_11_0A_04,
	0x11_11_11_15_15_15_0A,
	0x11_11_0A_04_0A_11_11,
	0x11_11_11_0A_04_04_04,
	0x1F_01_02_04_08_10_1F,
}

// squaresOf returns the squares of a letter, none for the space, and whether r is a letter.
func squaresOf(r rune) (uint64, bool) {
	switch {
	case r == ' ':
		return 0, true
	case '0' <= r && r <= '9':
		return letters[r-'0'], true
	case 'A' <= r && r <= 'Z':
		return letters[10+r-'A'], true
	}
	return 0, false
}

// squareRow returns the row of a letter's squares that has so many rows below it.
func squareRow(squares uint64, below int) int {
	return int(squares >> (8 * below) & 0x1F)
}

// inkedSquare reports whether a letter has the square in this column, from the left, and in the row that has so many
// below it. A column to the right of a letter has no squares.
func inkedSquare(letter rune, column, below int) bool {
	squares, _ := squaresOf(letter)
	return squareRow(squares, below)&(0x10>>column) != 0
}

// Letter returns the rows of a letter, from the uppermost one on, and whether c is a letter.
func Letter(c byte) ([7]int, bool) {
	squares, ok := squaresOf(rune(c))
	var rows [7]int
	for n := range rows {
		rows[n] = squareRow(squares, len(rows)-1-n)
	}
	return rows, ok
}

// spells reports whether s is the text of an item: some letters, and not too many.
func spells(s string) bool {
	if !between(len(s), 1, api.MaxText) {
		return false
	}
	for _, r := range s {
		if _, ok := squaresOf(r); !ok {
			return false
		}
	}
	return true
}

// Length returns how many dots the text s is long, if each square of a letter is unit dots wide.
func Length(s string, unit int) (int, api.Errno) {
	if !between(unit, 1, api.MaxFace) || !spells(s) {
		return 0, api.ErrArg
	}
	return (letterStep*len(s) - letterStep + letterWidth) * unit, api.OK
}
