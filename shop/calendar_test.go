package shop_test

import (
	"math"
	"math/rand/v2"
	"slices"
	"testing"

	"blazon/api"
	"blazon/shop"
)

const maxTime = 100000000

// P5.2: Next, with the chapter's example.
func TestNext(t *testing.T) {
	closed := plain()
	closed.Holidays = []int{0, 1, 3}
	full := greatest() // open all day, without work from day 9601 to 10000
	for _, c := range []struct {
		s          api.Shop
		t, minutes int
		want       int
	}{
		{plain(), 900, 90, 1920},
		{plain(), 870, 90, 870},
		{plain(), 871, 90, 1920},
		{plain(), 0, 1, 480},
		{plain(), 479, 1, 480},
		{plain(), 480, 1, 480},
		{plain(), 481, 480, 1920},
		{plain(), 480, 480, 480},
		{plain(), 959, 1, 959},
		{plain(), 960, 1, 1920},
		{plain(), 1439, 1, 1920},
		{plain(), 1440, 1, 1920},
		{plain(), 1920, 480, 1920},
		{closed, 0, 1, 2*1440 + 480},
		{closed, 500, 1, 2*1440 + 480},
		{closed, 2*1440 + 959, 1, 2*1440 + 959},
		{closed, 2*1440 + 959, 2, 4*1440 + 480},
		{full, 0, 1440, 0},
		{full, 1, 1440, 1440},
		{full, 1, 1439, 1},
		{full, 2, 1439, 1440},
		{full, 1439, 1, 1439},
		{full, 9601*1440 - 1, 1, 9601*1440 - 1},
		{full, 9601*1440 - 1, 2, 10001 * 1440},
		{full, 9601 * 1440, 1, 10001 * 1440},
		{full, 10001 * 1440, 1, 10001 * 1440},
		{narrow(), 0, 1, 1439},
		{narrow(), 1439, 1, 1439},
		{narrow(), 1440, 1, 2879},
		// day 69444 begins at 99999360
		{plain(), maxTime, 320, maxTime},
		{plain(), maxTime, 321, 69445*1440 + 480},
		{full, maxTime, 1440, 69445 * 1440},
	} {
		if got, err := shop.Next(c.s, c.t, c.minutes); got != c.want || err != api.OK {
			t.Errorf("Next of %d and %d minutes: %d, error %d, not %d", c.t, c.minutes, got, err, c.want)
		}
	}
}

// P5.2: the errors of Next.
func TestNextErrors(t *testing.T) {
	for _, c := range [][2]int{
		{-1, 1}, {maxTime + 1, 1}, {math.MinInt, 1}, {math.MaxInt, 1},
		{500, 0}, {500, -1}, {500, 481}, {500, math.MinInt}, {500, math.MaxInt}, {-1, 0}, {maxTime + 1, 481},
	} {
		if got, err := shop.Next(plain(), c[0], c[1]); got != 0 || err != api.ErrArg {
			t.Errorf("Next of %d and %d minutes: %d, error %d", c[0], c[1], got, err)
		}
	}
}

// P5.3: Worked.
func TestWorked(t *testing.T) {
	closed := plain()
	closed.Holidays = []int{1, 3}
	for _, c := range []struct {
		s        api.Shop
		from, to int
		want     int
	}{
		{plain(), 0, 0, 0},
		{plain(), 0, 480, 0},
		{plain(), 0, 481, 1},
		{plain(), 480, 481, 1},
		{plain(), 481, 481, 0},
		{plain(), 600, 700, 100},
		{plain(), 959, 960, 1},
		{plain(), 959, 1440, 1},
		{plain(), 960, 1920, 0},
		{plain(), 900, 1950, 90},
		{plain(), 0, 1440, 480},
		{plain(), 0, 14400, 4800},
		{closed, 0, 1440, 480},
		{closed, 960, 2*1440 + 480, 0},
		{closed, 1440, 2 * 1440, 0},
		{closed, 1440 + 500, 2*1440 + 500, 20},
		{closed, 0, 4 * 1440, 960},
		{plain(), 0, maxTime, 69444*480 + 160},
		{plain(), maxTime, maxTime, 0},
		{plain(), maxTime - 1, maxTime, 1},
		{greatest(), 0, maxTime, maxTime - 400*1440},
		{greatest(), 9600 * 1440, 10002 * 1440, 2 * 1440},
		{narrow(), 0, maxTime, 69444},
	} {
		if got, err := shop.Worked(c.s, c.from, c.to); got != c.want || err != api.OK {
			t.Errorf("Worked from %d to %d: %d, error %d, not %d", c.from, c.to, got, err, c.want)
		}
	}
	for _, c := range [][2]int{
		{-1, 0}, {1, 0}, {0, -1}, {0, maxTime + 1}, {maxTime + 1, maxTime + 1}, {maxTime + 1, maxTime + 2}, {500, 499},
		{math.MinInt, 0}, {math.MaxInt, 0}, {0, math.MaxInt}, {0, math.MinInt}, {math.MinInt, math.MaxInt}, {math.MaxInt, math.MinInt},
		{math.MinInt, math.MinInt}, {math.MaxInt, math.MaxInt},
	} {
		if got, err := shop.Worked(plain(), c[0], c[1]); got != 0 || err != api.ErrArg {
			t.Errorf("Worked from %d to %d: %d, error %d", c[0], c[1], got, err)
		}
	}
}

// P5.3: After, with the chapter's example.
func TestAfter(t *testing.T) {
	closed := plain()
	closed.Holidays = []int{0, 1, 3}
	always := narrow()
	always.Holidays = countUp(0, 400)
	for _, c := range []struct {
		s          api.Shop
		t, minutes int
		want       int
	}{
		{plain(), 900, 90, 1950},
		{plain(), 900, 60, 960},
		{plain(), 900, 61, 1921},
		{plain(), 900, 0, 900},
		{plain(), 0, 0, 0},
		{plain(), 100, 0, 100},
		{plain(), 1000, 0, 1000},
		{plain(), 0, 1, 481},
		{plain(), 960, 1, 1921},
		{plain(), 0, 480, 960},
		{plain(), 0, 481, 1921},
		{plain(), 0, 960, 1440 + 960},
		{closed, 0, 480, 2*1440 + 960},
		{closed, 0, 481, 4*1440 + 481},
		{closed, 500, 0, 500},
		{closed, 3*1440 + 500, 0, 3*1440 + 500},
		{plain(), maxTime, 0, maxTime},
		{plain(), maxTime, 320, maxTime + 320},
		{plain(), maxTime, 321, 69445*1440 + 481},
		{narrow(), 0, 1000000, 1440 * 1000000},
		{narrow(), maxTime, 1000000, 1440 * (69444 + 1000000)},
		{narrow(), 1439, 1, 1440},
		{narrow(), 1440, 1, 2880},
		{always, 0, 1, 401 * 1440},
		{always, 1, 1, 401 * 1440},
		{always, 0, 1000000, 1440 * (400 + 1000000)},
		{greatest(), 0, 1000000, 1000000},
		{greatest(), maxTime, 1000000, maxTime + 1000000},
		{greatest(), 9601 * 1440, 1, 10001*1440 + 1},
		{greatest(), 9601*1440 - 1, 1, 9601 * 1440},
	} {
		if got, err := shop.After(c.s, c.t, c.minutes); got != c.want || err != api.OK {
			t.Errorf("After of %d and %d minutes: %d, error %d, not %d", c.t, c.minutes, got, err, c.want)
		}
	}
	for _, c := range [][2]int{
		{-1, 0}, {maxTime + 1, 0}, {math.MinInt, 0}, {math.MaxInt, 0},
		{0, -1}, {0, 1000001}, {0, math.MinInt}, {0, math.MaxInt}, {-1, -1}, {maxTime + 1, 1000001},
	} {
		if got, err := shop.After(plain(), c[0], c[1]); got != 0 || err != api.ErrArg {
			t.Errorf("After of %d and %d minutes: %d, error %d", c[0], c[1], got, err)
		}
	}
}

// P5.2, P5.3: the calendar is as the second way says.
func TestSomeCalendars(t *testing.T) {
	r := rand.New(rand.NewPCG(5, 2))
	for range 4000 {
		s := someCalendar(r)
		from := upTo(r, 0, 14*1440)
		to := upTo(r, from, from+4000)
		minutes := upTo(r, 1, s.Close-s.Open)
		if got, err := shop.Next(s, from, minutes); got != referenceNext(s, from, minutes) || err != api.OK {
			t.Fatalf("Next of %v, %d, %d: %d, error %d", s, from, minutes, got, err)
		}
		if got, err := shop.Worked(s, from, to); got != referenceWorked(s, from, to) || err != api.OK {
			t.Fatalf("Worked of %v, %d, %d: %d, error %d", s, from, to, got, err)
		}
		work := upTo(r, 0, 3*(s.Close-s.Open))
		if got, err := shop.After(s, from, work); got != referenceAfter(s, from, work) || err != api.OK {
			t.Fatalf("After of %v, %d, %d: %d, error %d", s, from, work, got, err)
		}
	}
}

// P5.13: Next is not before t and does not fall when t grows; Worked up to After is what was asked for, and adds up.
func TestCalendarsAgree(t *testing.T) {
	r := rand.New(rand.NewPCG(5, 13))
	for range 3000 {
		s := someCalendar(r)
		a := upTo(r, 0, 20000)
		b := upTo(r, a, 30000)
		c := upTo(r, b, maxTime)
		minutes := upTo(r, 1, s.Close-s.Open)
		first, _ := shop.Next(s, a, minutes)
		second, _ := shop.Next(s, b, minutes)
		third, _ := shop.Next(s, c, minutes)
		if first < a || second < b || third < c || second < first || third < second {
			t.Fatalf("Next of %v, %d minutes, at %d, %d, %d: %d, %d, %d", s, minutes, a, b, c, first, second, third)
		}
		ab, _ := shop.Worked(s, a, b)
		bc, _ := shop.Worked(s, b, c)
		if ac, err := shop.Worked(s, a, c); ac != ab+bc || err != api.OK {
			t.Fatalf("Worked of %v at %d, %d, %d: %d is not %d and %d, error %d", s, a, b, c, ac, ab, bc, err)
		}
		work := upTo(r, 0, 10000)
		after, _ := shop.After(s, a, work)
		if n, err := shop.Worked(s, a, after); n != work || err != api.OK {
			t.Fatalf("Worked of %v from %d to After of %d minutes: %d, error %d", s, a, work, n, err)
		}
	}
}

// P5.14: one more holiday makes nothing earlier.
func TestHolidayMakesNothingEarlier(t *testing.T) {
	r := rand.New(rand.NewPCG(5, 14))
	for range 2000 {
		s := someShop(r, 4)
		day := r.IntN(20)
		if slices.Contains(s.Holidays, day) {
			continue
		}
		more := cloneShop(s)
		more.Holidays = append(more.Holidays, day)
		slices.Sort(more.Holidays)
		from, minutes, work := upTo(r, 0, 30000), upTo(r, 1, s.Close-s.Open), upTo(r, 0, 10000)
		numbers := func(s api.Shop) []int {
			next, e1 := shop.Next(s, from, minutes)
			after, e2 := shop.After(s, from, work)
			all := []int{next, after, int(e1), int(e2)}
			for i := range s.Jobs {
				n, e := shop.Chain(s, i)
				all = append(all, n, int(e))
			}
			for machine := range s.Machines {
				n, e := shop.Load(s, machine)
				all = append(all, n, int(e))
			}
			return all
		}
		before, now := numbers(s), numbers(more)
		for i := range before {
			if now[i] < before[i] {
				t.Fatalf("%v with the holiday %d: %v became %v", s, day, before, now)
			}
		}
	}
}
