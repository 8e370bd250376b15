package works_test

import (
	"fmt"
	"math/rand/v2"
	"slices"
	"strings"
	"testing"

	"blazon/api"
	"blazon/book"
)

// author writes lines of scripts, most of which can be carried out.
type author struct {
	r       *rand.Rand
	m       *model           // what the lines so far have made
	day     int              // grows
	tablets [9]*book.Book    // by their numbers, each a book of its own
	brought map[string]bool  // the tablet lines that were written
	made    map[int]api.Roll // by their lots
	first   []string         // the lines that come before all others
}

func newAuthor(seed uint64, c api.Setup) *author {
	a := &author{r: rand.New(rand.NewPCG(seed, 7)), m: newModel(c), brought: map[string]bool{}, made: map[int]api.Roll{}}
	for t := range a.tablets {
		a.tablets[t] = book.New()
	}
	if seed%5 > 0 { // otherwise it begins with nothing
		a.made[1], a.made[2] = api.Roll{Grade: 2, Colour: 1}, api.Roll{Grade: 2, Colour: 2}
		a.first = []string{"roll 1 2 1 1 0 150 6000", "roll 2 2 2 2 0 100 3000"}
		for k := range 4 {
			a.first = append(a.first, fmt.Sprintf("type %d 2 0 900 %s", k+1, faceTexts()[k]))
		}
	}
	return a
}

// some returns a number from 1 to n, and now and then one just beyond.
func (a *author) some(n int) int {
	if a.r.IntN(20) == 0 {
		return []int{0, n + 1}[a.r.IntN(2)]
	}
	return 1 + a.r.IntN(max(n, 1))
}

func (a *author) line(t *testing.T) string {
	if a.r.IntN(8) == 0 {
		a.day += a.r.IntN(60)
	}
	if len(a.first) > 0 {
		line := a.first[0]
		a.first = a.first[1:]
		return line
	}
	signs := len(a.m.signs)
	switch a.r.IntN(30) {
	case 0, 1, 2:
		return a.roll()
	case 3, 4:
		from := max(0, a.day-a.r.IntN(100))
		text := faceTexts()[a.r.IntN(len(faceTexts()))]
		return fmt.Sprintf("type %d %d %d %d %s", a.some(4), a.some(3), from, from+a.some(400), text)
	case 5, 6, 7, 8, 9:
		return fmt.Sprintf("make %d %d %d", a.some(4), 1+a.r.IntN(1+a.r.IntN(21)), a.day)
	case 10, 11, 12, 13:
		return fmt.Sprintf("hang %d %d %d %d", a.some(signs), a.some(1000000), a.r.IntN(10000005), a.day)
	case 14, 15:
		return fmt.Sprintf("cover %d", a.some(signs))
	case 16:
		return fmt.Sprintf("down %d", a.some(signs))
	case 17, 18, 19:
		return fmt.Sprintf("light %d %d %d", a.some(signs), a.r.IntN(400), a.day)
	case 20:
		switch a.r.IntN(9) {
		case 0:
			return fmt.Sprintf("expire %d", a.day+a.r.IntN(2000))
		case 1:
			return fmt.Sprintf("recall %d", a.some(6))
		}
		return fmt.Sprintf("scrap %d", a.id())
	case 21:
		return fmt.Sprintf("hang %d %d %d %d", a.some(signs), a.some(1000000), a.some(10000000), a.day)
	case 22, 23, 24:
		return a.tabletLine(t)
	case 25, 26:
		return fmt.Sprintf("%s %d %d", "values", a.some(signs), a.some(6))
	case 27:
		return a.decide()
	case 28:
		return []string{"balance", "disputes", fmt.Sprintf("sign %d", a.some(signs)), fmt.Sprintf("sign %d", a.some(signs))}[a.r.IntN(4)]
	}
	return a.broken(t)
}

// roll returns the line of a roll; most of one lot have the same sheet.
func (a *author) roll() string {
	lot := a.some(6)
	like, known := a.made[lot]
	if !known || a.r.IntN(10) == 0 {
		like = api.Roll{Grade: a.some(3), Colour: a.some(7), Made: max(0, a.day-a.r.IntN(30))}
		if a.r.IntN(3) > 0 {
			like.Colour, like.Grade = 1, 2
		}
		a.made[lot] = like
	}
	id := 1 + a.r.IntN(3000)
	return fmt.Sprintf("roll %d %d %d %d %d %d %d", id, like.Grade, like.Colour, lot, like.Made, a.some(150), a.some(3000))
}

// id returns the Id of an item or a piece, or none.
func (a *author) id() int {
	ids := []int{0, 5000}
	for _, it := range a.m.store.Items() {
		ids = append(ids, it.Id, it.Id)
	}
	for _, p := range a.m.store.Pieces() {
		ids = append(ids, p.Id)
	}
	return ids[a.r.IntN(len(ids))]
}

// tabletLine returns the line of a record that a tablet writes, or wrote: tablets see the works' book, and each other's, now and then.
func (a *author) tabletLine(t *testing.T) string {
	n := 2 + a.r.IntN(4)
	mine := a.tablets[n]
	if a.r.IntN(3) == 0 {
		mine.Join(a.m.book)
	}
	if a.r.IntN(4) == 0 {
		mine.Join(a.tablets[2+a.r.IntN(4)])
	}
	if a.r.IntN(25) == 0 {
		a.tablets[n] = mine.Copy() // what it writes next it forgets again, so that it is forked
	}
	r, err := mine.Write(n, a.r.IntN(1000), 1+a.r.IntN(len(a.m.signs)+2), 1+a.r.IntN(6), a.r.IntN(5)-2)
	if err != api.OK {
		a.tablets[n] = book.New()
		return "disputes"
	}
	line := tabletLine(t, r)
	if a.r.IntN(10) == 0 {
		for known := range a.brought {
			line = min(line, known)
		}
	}
	a.brought[line] = true
	return line
}

// decide returns the line that ends a dispute, if there is one.
func (a *author) decide() string {
	c := api.Case{Sign: a.some(3), Field: a.some(6)}
	if l := a.m.book.Disputes(); len(l) > 0 {
		c = l[a.r.IntN(len(l))]
	}
	return fmt.Sprintf("decide %d %d %d", c.Sign, c.Field, a.r.IntN(9))
}

// broken returns a line that is not as it should be, most times.
func (a *author) broken(t *testing.T) string {
	if len(a.m.lines) == 0 || a.r.IntN(3) == 0 {
		return []string{"", " ", "rolls", "balance ", "sign", "make 1 1", "tablet ", "tablet x", "tablet 0A"}[a.r.IntN(9)]
	}
	line := []byte(a.m.lines[a.r.IntN(len(a.m.lines))])
	at := a.r.IntN(len(line))
	switch a.r.IntN(3) {
	case 0:
		line[at] = " 0aF-9\x00\xff"[a.r.IntN(8)]
	case 1:
		line = slices.Delete(line, at, at+1)
	case 2:
		line = slices.Insert(line, at, " 0aF-9\x00\xff"[a.r.IntN(8)])
	}
	return string(line)
}

// setups are some in which scripts are played.
func setups() []api.Setup {
	narrow, fine, wide := plain(), plain(), plain()
	narrow.StripWidth = 13
	fine.StripWidth = 3 // a panel of 200 dots would need more strips than a need can have
	wide.StripWidth = 150
	wide.Rules = api.Shelf{MinWidth: 1, MinLength: 1, Life: [3]int{100000, 100000, 100000}}
	return []api.Setup{plain(), narrow, fine, wide}
}

// write returns a script of so many lines.
func (a *author) write(t *testing.T, n int) []string {
	var script []string
	for range n {
		line := a.line(t)
		a.m, _, _, _ = a.m.do(line)
		script = append(script, line)
	}
	return script
}

// P10.5, P10.6: works do what the reference does, line by line, and an error changes nothing. P10.9: the areas balance, and the pieces
// are those of the signs. P10.11: Open on a copy of the disk gives the same works.
func TestScripts(t *testing.T) {
	errors := map[api.Errno]int{}
	forms := map[string]int{}
	books := [3]int{} // how often there were disputes, waiting records and forks
	for seed := range uint64(60) {
		c := setups()[seed%4]
		a := newAuthor(seed, c)
		d := book.NewDisk()
		w := open(t, c, d)
		for k := range 150 {
			line := a.line(t)
			next, _, want, wantErr := a.m.do(line)
			got, err := w.Do(line)
			if got != want || err != wantErr {
				t.Fatalf("seed %d, line %d, %q: %q, error %d, not %q, %d", seed, k, line, got, err, want, wantErr)
			}
			errors[err]++
			if err == api.OK {
				word, _, _ := strings.Cut(line, " ")
				forms[word]++
			}
			a.m = next
			if k%5 == 0 {
				same(t, line, viewOf(w), a.m.view())
				wantConsistent(t, c, viewOf(w))
			}
			for i, n := range []int{len(a.m.book.Disputes()), len(a.m.book.Waiting()), len(a.m.book.Forks())} {
				books[i] += min(n, 1)
			}
			if k%30 == 0 {
				same(t, "Open behind "+line, viewOf(open(t, c, d.Copy())), a.m.view())
			}
		}
	}
	for _, err := range []api.Errno{0, api.ErrNone, api.ErrForm, api.ErrArg, api.ErrCommand, api.ErrType, api.ErrState, api.ErrWide, api.ErrShort, api.ErrRoll, api.ErrThere, api.ErrLot} {
		if errors[err] < 3 {
			t.Errorf("the scripts have the error %d %d times", err, errors[err])
		}
	}
	if slices.Min(books[:]) < 50 {
		t.Errorf("the scripts have disputes, waiting records and forks behind %v lines", books)
	}
	for _, m := range allMatches {
		if forms[m.name] < 10 {
			t.Errorf("the scripts carry out %s %d times", m.name, forms[m.name])
		}
	}
}

// wantConsistent fails the test if the pieces of a view are not those of its signs (P10.9).
func wantConsistent(t *testing.T, c api.Setup, v view) {
	t.Helper()
	b := v.balance
	if b.Received != b.Stock+b.Pieces+b.Used+b.Waste || b.Pieces != 0 {
		t.Fatalf("balance %+v", b)
	}
	pieces := map[int]api.Piece{}
	for _, p := range v.pieces {
		pieces[p.Id] = p
	}
	count := 0
	for _, s := range v.signs {
		first, width := pieces[s.Pieces[0]], 0
		for _, id := range s.Pieces {
			if p := pieces[id]; p.Use != s.Number || p.Lot != first.Lot {
				t.Fatalf("the sign %+v has the piece %+v", s, p)
			}
			width += pieces[id].Width
			count++
		}
		if !slices.ContainsFunc(faceTexts(), func(text string) bool { return fits(c, text, first, width) }) {
			t.Fatalf("no face fits on the sign %+v", s)
		}
	}
	if count != len(v.pieces) {
		t.Fatalf("signs have %d pieces of %d", count, len(v.pieces))
	}
}

// fits reports whether a face can be on pieces as wide together as width.
func fits(c api.Setup, text string, one api.Piece, width int) bool {
	strips, need, err := referenceStrips(typeOf(text), c.StripWidth)
	sum := 0
	for _, s := range strips {
		sum += s
	}
	return err == api.OK && sum <= width && need.Width == one.Width && need.Length == one.Length && need.Colour == one.Colour
}

// P10.14: lines of tablets that stand behind one another can come in any order.
func TestTabletOrder(t *testing.T) {
	for seed := range uint64(30) {
		a := newAuthor(100+seed, plain())
		a.write(t, 40)
		before := a.m.clone()
		var lines []string
		for len(lines) < 12 {
			line := a.tabletLine(t)
			next, _, _, err := a.m.do(line)
			if strings.HasPrefix(line, "tablet") && err == api.OK {
				lines = append(lines, line)
				a.m = next
			}
		}
		later := a.write(t, 40)
		var want []string
		for round := range 5 {
			w := open(t, plain(), book.NewDisk())
			do(t, w, before.lines...)
			do(t, w, lines...)
			got := []string{fmt.Sprint(w.Book().Records(), w.Book().Waiting(), w.Book().Forks())}
			for _, line := range later {
				answer, err := w.Do(line)
				got = append(got, fmt.Sprint(line, answer, err))
			}
			if round == 0 {
				want = got
			}
			if !slices.Equal(got, want) {
				t.Fatalf("seed %d: %q, not %q", seed, got, want)
			}
			a.r.Shuffle(len(lines), func(i, j int) { lines[i], lines[j] = lines[j], lines[i] })
		}
	}
}
