package works_test

import (
	"encoding/hex"
	"fmt"
	"regexp"
	"slices"
	"strconv"
	"strings"

	"blazon/api"
	"blazon/book"
	"blazon/face"
	"blazon/sheet"
)

// The tests hold the works against a second way to the same results: lines are read by regular expressions, needs are found dot by
// dot, and each line is carried out on copies, which are thrown away if there is an error.

// faceTexts are texts of types, the last ones of them not valid.
func faceTexts() []string {
	return []string{
		"round 60: field white; rim red 8",
		"panel 100 40: field blue; text white 2 \"AB C\" at 10 10",
		"panel 60 30: field black; text yellow 2 \"STOP\" at 7 8",
		"diamond 50: field yellow; disc black 20 at 15 15",
		"panel 100 100: field red; text red 12 \"M\" at 5 3",
		"panel 200 10: field green",
		"up 30: rim brown 2",
		"panel 20 6: box orange 1 1 at 3 3; box black 20 6 at 0 1",
		"panel 20 6: field orange; field black; slash white 3",
		"octagon 20",
		"up 30: field black",
		"round 60: ",
		"",
	}
}

// referenceColour returns the least colour other than black of a face's dots, or 0.
func referenceColour(f api.Face, w, h int) int {
	least := 0
	for j := range h {
		for i := range w {
			c, _ := face.At(f, i, j)
			if c >= api.White && c < api.Black && (least == 0 || c < least) {
				least = c
			}
		}
	}
	return least
}

// splits reports whether a seam at a column would cut a letter.
func splits(f api.Face, column int) bool {
	for _, it := range f.Items {
		for k, letter := range []byte(it.Text) {
			left := it.Left + 6*it.A*k
			if letter != ' ' && left < column && column < left+5*it.A {
				return true
			}
		}
	}
	return false
}

// colours has what referenceColour returned, by the texts of the faces.
var colours = map[string]int{}

// referenceStrips returns the strips and the need of a type.
func referenceStrips(t api.Type, width int) ([]int, api.Need, api.Errno) {
	f, err := face.Parse(t.Text)
	if err != api.OK {
		return nil, api.Need{}, api.ErrType
	}
	w, h, _ := face.Extent(f)
	if _, known := colours[t.Text]; !known {
		colours[t.Text] = referenceColour(f, w, h)
	}
	n := api.Need{Grade: t.Grade, Colour: colours[t.Text], Length: h}
	if n.Colour == 0 {
		return nil, api.Need{}, api.ErrType
	}
	var strips []int
	for at := 0; at < w; {
		end := min(at+width, w)
		for end < w && end > at && splits(f, end) {
			end--
		}
		if end == at {
			return nil, api.Need{}, api.ErrWide
		}
		strips = append(strips, end-at)
		at = end
	}
	n.Width, n.Count = slices.Max(strips), len(strips)
	return strips, n, api.OK
}

// model is what the reference has instead of works.
type model struct {
	setup api.Setup
	store *sheet.Store
	book  *book.Book
	types []api.Type
	signs map[int]api.Made
	lines []string // the deeds
}

func newModel(c api.Setup) *model {
	store, err := sheet.New(c.Rules)
	if err != api.OK {
		panic("rules")
	}
	return &model{setup: c, store: store, book: book.New(), signs: map[int]api.Made{}}
}

func (m *model) clone() *model {
	c := *m
	c.store, c.book = m.store.Copy(), m.book.Copy()
	c.types, c.lines = slices.Clone(m.types), slices.Clone(m.lines)
	c.signs = map[int]api.Made{}
	for n, s := range m.signs {
		s.Pieces, s.Measures = slices.Clone(s.Pieces), slices.Clone(s.Measures)
		c.signs[n] = s
	}
	return &c
}

func (m *model) view() view {
	v := partsView(m.store, m.book)
	v.lines = m.lines
	for n := 1; n <= len(m.signs); n++ {
		v.signs = append(v.signs, m.signs[n])
	}
	for _, day := range viewDays() {
		byCode := map[int]api.Type{}
		var codes []int
		for _, t := range m.types {
			if day >= t.From && day < t.To {
				byCode[t.Code] = t
				codes = append(codes, t.Code)
			}
		}
		slices.Sort(codes)
		var types []api.Type
		for _, c := range codes {
			types = append(types, byCode[c])
		}
		v.types = append(v.types, types)
	}
	return v
}

// grammar are the forms of the lines, with N for a number.
const grammar = `roll N N N N N N N
type N N N N ((?s).*)
make N N N
hang N N N N
cover N
down N
light N N N
scrap N
expire N
recall N
tablet ([^ ]+)
values N N
disputes
decide N N N
balance
sign N`

// match is a form as a regular expression.
type match struct {
	name string
	re   *regexp.Regexp
}

func matches() []match {
	var l []match
	for form := range strings.SplitSeq(grammar, "\n") {
		name, _, _ := strings.Cut(form, " ")
		l = append(l, match{name, regexp.MustCompile("^" + strings.ReplaceAll(form, "N", "(0|[1-9][0-9]{0,8})") + "$")})
	}
	return l
}

var allMatches = matches()

// do returns what a line makes of the model: the model itself, if there is an error.
func (m *model) do(line string) (next *model, deed bool, answer string, err api.Errno) {
	if len(line) > 1000 {
		return m, false, "", api.ErrArg
	}
	for _, form := range allMatches {
		words := form.re.FindStringSubmatch(line)
		if words == nil {
			continue
		}
		var n []int
		for _, word := range words[1:] {
			k, _ := strconv.Atoi(word)
			n = append(n, k)
		}
		deed = !slices.Contains([]string{"values", "disputes", "balance", "sign"}, form.name)
		next = m.clone()
		answer, err = next.carry(form.name, n, words[len(words)-1])
		if err != api.OK {
			return m, deed, "", err
		}
		if deed {
			next.lines = append(next.lines, line)
		}
		return next, deed, answer, api.OK
	}
	return m, false, "", api.ErrCommand
}

func (m *model) carry(name string, n []int, tail string) (string, api.Errno) {
	switch name {
	case "roll":
		return "ok", m.store.Receive(api.Roll{Id: n[0], Grade: n[1], Colour: n[2], Lot: n[3], Made: n[4], Width: n[5], Length: n[6]})
	case "type":
		return "ok", m.addType(api.Type{Code: n[0], Grade: n[1], From: n[2], To: n[3], Text: tail})
	case "make":
		return m.makeFaces(n[0], n[1], n[2])
	case "hang", "cover", "down", "light":
		return "ok", m.change(name, n)
	case "scrap":
		for _, s := range m.signs {
			if slices.Contains(s.Pieces, n[0]) {
				return "", api.ErrState
			}
		}
		return "ok", m.store.Scrap(n[0])
	case "expire":
		_, err := m.store.Expire(n[0])
		return "ok", err
	case "recall":
		l, err := m.store.Recall(n[0])
		return spaced(l), err
	case "tablet":
		return "ok", m.tablet(tail)
	case "values":
		l, err := m.book.Values(n[0], n[1])
		return spaced(l), err
	case "decide":
		if l, err := m.book.Values(n[0], n[1]); err != api.OK || len(l) < 2 {
			return "", api.ErrNone
		}
		_, err := m.book.Write(1, 0, n[0], n[1], n[2])
		return "ok", err
	}
	return m.show(name, n)
}

func (m *model) show(name string, n []int) (string, api.Errno) {
	switch name {
	case "disputes":
		var l []string
		for _, c := range m.book.Disputes() {
			l = append(l, fmt.Sprintf("%d/%d", c.Sign, c.Field))
		}
		return spaced(l), api.OK
	case "balance":
		b := m.store.Balance()
		return fmt.Sprintf("%d %d %d %d %d", b.Received, b.Stock, b.Pieces, b.Used, b.Waste), api.OK
	}
	s, ok := m.signs[n[0]]
	if !ok {
		return "", api.ErrNone
	}
	return fmt.Sprintf("%d %d %s", s.Code, s.State, spaced(s.Pieces)), api.OK
}

func (m *model) addType(t api.Type) api.Errno {
	if _, _, err := referenceStrips(t, 150); err == api.ErrType {
		return err
	}
	if t.Code < 1 || t.Code > 1000000 || t.Grade < 1 || t.Grade > 3 || t.From > 100000 || t.To > 100001 || t.To <= t.From {
		return api.ErrType
	}
	for _, o := range m.types {
		if o.Code == t.Code && max(o.From, t.From) < min(o.To, t.To) {
			return api.ErrType
		}
	}
	m.types = append(m.types, t)
	return api.OK
}

func (m *model) makeFaces(code, count, day int) (string, api.Errno) {
	k := slices.IndexFunc(m.types, func(t api.Type) bool { return t.Code == code && day >= t.From && day < t.To })
	if k < 0 {
		return "", api.ErrNone
	}
	if count < 1 || count > 20 {
		return "", api.ErrArg
	}
	_, need, err := referenceStrips(m.types[k], m.setup.StripWidth)
	if err != api.OK {
		return "", err
	}
	from := len(m.signs) + 1
	for range count {
		pieces, err := m.store.Take(need, day)
		if err != api.OK {
			return "", err
		}
		s := api.Made{Number: len(m.signs) + 1, Code: code, State: api.StateMade}
		for _, p := range pieces {
			s.Pieces = append(s.Pieces, p.Id)
			m.store.Use(p.Id, s.Number)
		}
		m.signs[s.Number] = s
		m.book.Write(1, 0, s.Number, api.FieldCode, code)
		m.book.Write(1, 0, s.Number, api.FieldState, api.StateMade)
	}
	return fmt.Sprintf("%d-%d", from, len(m.signs)), api.OK
}

// change is for the lines that change one sign.
func (m *model) change(name string, n []int) api.Errno {
	s, ok := m.signs[n[0]]
	if !ok {
		return api.ErrNone
	}
	from := map[string][]int{"hang": {1, 3}, "cover": {2}, "down": {2, 3}, "light": {2}}[name]
	if !slices.Contains(from, s.State) {
		return api.ErrState
	}
	write := func(field, value int) { m.book.Write(1, 0, n[0], field, value) }
	switch name {
	case "hang":
		if n[1] == 0 || n[1] > 1000000 || n[2] > 10000000 || n[3] > 100000 {
			return api.ErrArg
		}
		s.State, s.Road, s.Chain, s.Day = 2, n[1], n[2], n[3]
		for k, value := range []int{2, n[1], n[2], n[3]} {
			write(2+k, value)
		}
	case "light":
		if n[1] > 100000 || n[2] > 100000 {
			return api.ErrArg
		}
		for _, one := range s.Measures {
			if n[2] <= one.Day {
				return api.ErrArg
			}
		}
		s.Measures = append(s.Measures, api.Measure{Day: n[2], R: n[1]})
		write(6, n[1])
	default:
		s.State = map[string]int{"cover": 3, "down": 4}[name]
		write(2, s.State)
	}
	m.signs[n[0]] = s
	return api.OK
}

func (m *model) tablet(word string) api.Errno {
	b, bad := hex.DecodeString(word)
	r, err := book.Unpack(b)
	if bad != nil || strings.ToLower(word) != word || err != api.OK {
		return api.ErrForm
	}
	own := 0
	for _, o := range m.book.Records() {
		if o.Tablet == 1 {
			own++
		}
	}
	if r.Tablet == 1 || r.Seen[0] > own {
		return api.ErrArg
	}
	return m.book.Add(r)
}

// spaced is a list with single spaces, or a dash for none.
func spaced[T any](l []T) string {
	if len(l) == 0 {
		return "-"
	}
	return strings.Trim(fmt.Sprint(l), "[]")
}

// referencePlay is Play of a setup that is valid, with a log of its own.
func referencePlay(c api.Setup, lines []string) []string {
	d := book.NewDisk()
	log, _ := book.Open(d)
	m := newModel(c)
	var answers []string
	disk := regexp.MustCompile(`^(arm|crash) (0|[1-9][0-9]{0,8})$`)
	for _, line := range lines {
		if words := disk.FindStringSubmatch(line); words != nil {
			n, _ := strconv.Atoi(words[2])
			if words[1] == "arm" {
				d.Arm(n)
			} else {
				d.Crash(n)
				log, _ = book.Open(d)
				m = newModel(c)
				for _, e := range log.Entries() {
					m, _, _, _ = m.do(string(e))
				}
			}
			answers = append(answers, "ok")
			continue
		}
		next, deed, answer, err := m.do(line)
		if err == api.OK && deed {
			err = log.Put([]byte(line))
		}
		if err != api.OK {
			answer = fmt.Sprintf("error %d", err)
		} else {
			m = next
		}
		answers = append(answers, answer)
	}
	return answers
}
