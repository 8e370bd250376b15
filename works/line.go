package works

import (
	"strconv"
	"strings"

	"blazon/api"
)

// The limits of lines and of the numbers in them.
const (
	maxBytes  = 1000
	maxDigits = 9
)

// What stands behind the numbers of a line, if there is something.
const (
	aWord   = 1 // of at least one byte
	anyText = 2 // all that is behind a space
)

// form says how the lines with a certain first word go on, and what they do.
type form struct {
	numbers int
	ending  int
	deed    bool
	carry   func(s *state, o order) (string, api.Errno) // changes nothing if it has an error
}

// order is a line that was read.
type order struct {
	form
	n    []int
	tail string
}

// forms returns the forms of all lines by their first words.
func forms() map[string]form {
	return map[string]form{
		"roll":     {numbers: 7, deed: true, carry: (*state).receive},
		"type":     {numbers: 4, ending: anyText, deed: true, carry: (*state).addType},
		"make":     {numbers: 3, deed: true, carry: (*state).makeFaces},
		"hang":     {numbers: 4, deed: true, carry: (*state).hang},
		"cover":    {numbers: 1, deed: true, carry: (*state).cover},
		"down":     {numbers: 1, deed: true, carry: (*state).takeDown},
		"light":    {numbers: 3, deed: true, carry: (*state).measure},
		"scrap":    {numbers: 1, deed: true, carry: (*state).scrap},
		"expire":   {numbers: 1, deed: true, carry: (*state).expire},
		"recall":   {numbers: 1, deed: true, carry: (*state).recall},
		"tablet":   {ending: aWord, deed: true, carry: (*state).addRecord},
		"values":   {numbers: 2, carry: (*state).values},
		"disputes": {carry: (*state).disputes},
		"decide":   {numbers: 3, deed: true, carry: (*state).decide},
		"balance":  {carry: (*state).balance},
		"sign":     {numbers: 1, carry: (*state).showSign},
	}
}

// readOrder reads a line.
func readOrder(line string) (order, api.Errno) {
	if len(line) > maxBytes {
		return order{}, api.ErrArg
	}
	word, rest, more := strings.Cut(line, " ")
	f, ok := forms()[word]
	o := order{form: f}
	for ok && len(o.n) < f.numbers {
		var n int
		word, rest, more = strings.Cut(rest, " ")
		n, ok = readNumber(word)
		o.n = append(o.n, n)
	}
	if !ok || !endsAs(f.ending, rest, more) {
		return order{}, api.ErrCommand
	}
	o.tail = rest
	return o, api.OK
}

// endsAs reports whether a line ends as a form has it; more tells whether there is a space in front of its tail.
func endsAs(ending int, tail string, more bool) bool {
	switch ending {
	case aWord:
		return tail != "" && !strings.Contains(tail, " ")
	case anyText:
		return more
	}
	return !more
}

// readNumber returns the number that a word is.
func readNumber(word string) (int, bool) {
	n, err := strconv.Atoi(word)
	// Atoi also reads signs and leading zeros.
	if err != nil || n < 0 || len(word) > maxDigits || strconv.Itoa(n) != word {
		return 0, false
	}
	return n, true
}

// hexDigits are the digits by their values.
const hexDigits = "0123456789abcdef"

// readHex returns the bytes for which a word has two digits each.
func readHex(word string) ([]byte, bool) {
	if len(word)%2 != 0 {
		return nil, false
	}
	var b []byte
	for k := 0; k < len(word); k += 2 {
		high, low := strings.IndexByte(hexDigits, word[k]), strings.IndexByte(hexDigits, word[k+1])
		if high < 0 || low < 0 {
			return nil, false
		}
		b = append(b, byte(high<<4|low))
	}
	return b, true
}

// tell returns the words for the elements of a list, with single spaces between them.
func tell[T any](list []T, word func(T) string) string {
	if len(list) == 0 {
		return "-"
	}
	var words []string
	for _, element := range list {
		words = append(words, word(element))
	}
	return strings.Join(words, " ")
}

// done returns the answer to a deed that tells nothing.
func done(err api.Errno) (string, api.Errno) {
	if err != api.OK {
		return "", err
	}
	return "ok", api.OK
}
