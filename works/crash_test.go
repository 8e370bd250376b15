package works_test

import (
	"slices"
	"testing"

	"blazon/api"
	"blazon/book"
	"blazon/works"
)

// scriptOf returns a script with deeds of all kinds, and the number of its deeds that are carried out.
func scriptOf(t *testing.T, seed uint64, c api.Setup, n int) ([]string, int) {
	t.Helper()
	a := newAuthor(seed, c)
	script := a.write(t, n)
	return script, len(a.m.lines)
}

// runUntilDown carries out a script until the disk goes down, and returns the model of what was acknowledged and the line under way.
func runUntilDown(t *testing.T, c api.Setup, w *works.Works, script []string) (m *model, underWay string, rest []string) {
	t.Helper()
	m = newModel(c)
	for k, line := range script {
		next, deed, want, wantErr := m.do(line)
		got, err := w.Do(line)
		if deed && wantErr == api.OK && err == api.ErrDown {
			if got != "" {
				t.Errorf("%s: %q with an error", line, got)
			}
			return m, line, script[k+1:]
		}
		if got != want || err != wantErr {
			t.Fatalf("%s: %q, error %d, not %q, %d", line, got, err, want, wantErr)
		}
		m = next
	}
	return m, "", nil
}

// P10.12 and P10.5: a loss of power at each operation, with any number of bytes kept. Where the log has an error nothing changes, all
// later deeds are ErrDead, and what only looks is still answered.
func TestCrashes(t *testing.T) {
	found := 0
	for seed := range uint64(6) {
		c := setups()[seed%4]
		script, deeds := scriptOf(t, 300+seed, c, 45)
		for n := 1; n <= 2*deeds; n++ {
			d := book.NewDisk()
			w := open(t, c, d)
			d.Arm(n)
			m, underWay, rest := runUntilDown(t, c, w, script)
			if underWay == "" {
				t.Fatalf("the operation %d of %d deeds does not fail", n, deeds)
			}
			same(t, "behind ErrDown", viewOf(w), m.view())
			wantDead(t, w, m, append([]string{underWay}, rest...))
			for _, keep := range []int{-1, 0, 1, 20, len(underWay) + 6, len(underWay) + 7, 1 << 40} {
				// Each deed is one Append and one Sync: where the latter fails, the entry, 7 bytes longer than the line, is loose.
				whole := n%2 == 0 && keep >= len(underWay)+7
				if whole {
					found++
				}
				wantRecovered(t, c, d.Copy(), keep, m, underWay, whole)
			}
			d.Crash(0)
			wantDead(t, w, m, rest)
		}
	}
	if found < 50 {
		t.Errorf("the line under way was found %d times", found)
	}
}

// wantDead fails the test if works whose log is dead do not answer as the model does, without any deed.
func wantDead(t *testing.T, w *works.Works, m *model, lines []string) {
	t.Helper()
	for _, line := range lines {
		_, deed, want, wantErr := m.do(line)
		if deed && wantErr == api.OK {
			want, wantErr = "", api.ErrDead
		}
		if got, err := w.Do(line); got != want || err != wantErr {
			t.Fatalf("%s of dead works: %q, error %d, not %q, %d", line, got, err, want, wantErr)
		}
	}
	same(t, "dead works", viewOf(w), m.view())
}

// wantRecovered fails the test if Open behind a loss of power does not find what was acknowledged, and the line under way just if its
// entry is whole. Before that, Open loses power, too.
func wantRecovered(t *testing.T, c api.Setup, d *book.Disk, keep int, m *model, underWay string, whole bool) {
	t.Helper()
	d.Crash(keep)
	d.Arm(1)
	if w, err := works.Open(c, d); w != nil || err != api.ErrDown {
		t.Fatalf("Open of an armed disk: error %d", err)
	}
	d.Crash(1 << 40)
	w := open(t, c, d)
	if whole {
		m, _, _, _ = m.do(underWay)
	}
	same(t, "Open behind a loss of power", viewOf(w), m.view())
	answers(t, w, "balance", balanceOf(m))
	do(t, w, "roll 999999998 1 1 999999998 0 5 5")
	d.Crash(0)
	if l := open(t, c, d).Lines(); len(l) != len(m.lines)+1 {
		t.Errorf("Lines: %q", l)
	}
}

func balanceOf(m *model) string {
	_, _, answer, _ := m.do("balance")
	return answer
}

// P10.5: works whose disk has lost power are dead at once, without an ErrDown before.
func TestDeadByCrash(t *testing.T) {
	d := book.NewDisk()
	w := open(t, plain(), d)
	do(t, w, whiteRoll, roundType, "make 5 2 10")
	d.Crash(0)
	m := newModel(plain())
	for _, line := range w.Lines() {
		m, _, _, _ = m.do(line)
	}
	wantDead(t, w, m, []string{"hang 1 9 1200 11", "hang 1 9 1200 11", "hang 3 9 1200 11", "sign 1", "make 5 2 10", "recall 7", "balance", "nothing"})
	same(t, "Open", viewOf(open(t, plain(), d)), m.view())
}

// P10.5: an error of the line comes before one of the log.
func TestLogErrorIsLast(t *testing.T) {
	d := book.NewDisk()
	w := open(t, plain(), d)
	do(t, w, whiteRoll, roundType, "make 5 2 10")
	d.Arm(1)
	fails(t, w, "cover 1", api.ErrState)
	fails(t, w, "make 5 21 10", api.ErrArg)
	fails(t, w, "nothing", api.ErrCommand)
	if d.Down() {
		t.Error("a line with an error comes to the disk")
	}
	answers(t, w, "balance", "120000 112800 0 7200 0")
	fails(t, w, "hang 1 9 1200 11", api.ErrDown)
	fails(t, w, "cover 1", api.ErrState)
	fails(t, w, "nothing", api.ErrCommand)
	fails(t, w, "hang 1 9 1200 11", api.ErrDead)
	if !d.Down() {
		t.Error("the disk is up")
	}
}

// P10.11: Open on a copy of the disk gives the same works, and those go on apart.
func TestReplay(t *testing.T) {
	for seed := range uint64(8) {
		c := setups()[seed%4]
		script, _ := scriptOf(t, 400+seed, c, 120)
		d := book.NewDisk()
		w := open(t, c, d)
		for _, line := range script {
			w.Do(line)
		}
		before := viewOf(w)
		copied := open(t, c, d.Copy())
		same(t, "Open on a copy", viewOf(copied), before)
		again, _ := scriptOf(t, 500+seed, c, 60)
		for _, line := range again {
			copied.Do(line)
		}
		same(t, "the works themselves", viewOf(w), before)
		if slices.Equal(copied.Lines(), before.lines) {
			t.Error("the copy has no deeds of its own")
		}
	}
}
