package works_test

import (
	"fmt"
	"slices"
	"testing"

	"blazon/api"
	"blazon/works"
)

// wantPlay fails the test if a script does not have these answers.
func wantPlay(t *testing.T, lines, want []string) {
	t.Helper()
	if got, err := works.Play(plain(), lines); !slices.Equal(got, want) || err != api.OK {
		t.Errorf("Play: %q, error %d, not %q", got, err, want)
	}
}

// P10.8: answers and errors.
func TestPlay(t *testing.T) {
	wantPlay(t, nil, nil)
	wantPlay(t,
		[]string{whiteRoll, whiteRoll, roundType, "make 5 2 10", "sign 1", "hang 1 9 1200 11", "hang 1 9 1200 11", "recall 7", "", "disputes"},
		[]string{"ok", "error 22", "ok", "1-2", "5 1 3", "ok", "error 102", "1 2", "error 100", "-"})
}

// P10.8: a disk that is armed goes down at an Append or a Sync; a loss of power opens the works anew.
func TestPlayCrash(t *testing.T) {
	wantPlay(t,
		[]string{whiteRoll, "arm 1", roundType, roundType, "balance", "crash 0", "make 5 1 10", roundType, "make 5 1 10"},
		[]string{"ok", "ok", "error 92", "error 93", "120000 120000 0 0 0", "ok", "error 5", "ok", "1-1"})
	wantPlay(t,
		[]string{whiteRoll, "arm 2", roundType, "make 5 1 10", "crash 999999999", roundType, "make 5 1 10"},
		[]string{"ok", "ok", "error 92", "error 5", "ok", "error 101", "1-1"})
	wantPlay(t,
		[]string{whiteRoll, "arm 2", roundType, "crash 5", roundType, "make 5 1 10", "crash 0", "sign 1"},
		[]string{"ok", "ok", "error 92", "ok", "ok", "1-1", "ok", "5 1 3"})
	wantPlay(t,
		[]string{"arm 1", "arm 0", whiteRoll, "arm 3", roundType, "arm 3", "crash 0", "make 5 1 10", "hang 1 1 1 1"},
		[]string{"ok", "ok", "ok", "ok", "ok", "ok", "ok", "1-1", "ok"})
	wantPlay(t,
		[]string{"arm 3", whiteRoll, roundType, "arm 1", "crash 0", roundType, "balance"},
		[]string{"ok", "ok", "error 92", "ok", "ok", "ok", "120000 120000 0 0 0"})
}

// P10.8: lines that are not well-formed ones for the disk are lines for the works.
func TestPlayForms(t *testing.T) {
	for _, line := range []string{
		"arm", "arm ", "arm x", "arm 01", "arm -1", "arm 1 ", "arm 1 1", "arm  1", "arm 1000000000", "Arm 1", "arms 1",
		"crash", "crash ", "crash x", "crash 00", "crash -1", "crash 0 ", "crash 0 0", "crash 1000000000", "",
	} {
		wantPlay(t, []string{line, whiteRoll}, []string{"error 100", "ok"})
	}
	wantPlay(t, []string{"arm 999999999", "crash 999999999", "arm 0", "crash 0"}, []string{"ok", "ok", "ok", "ok"})
	long := "arm 1" + fmt.Sprintf("%01000d", 0)
	wantPlay(t, []string{long, whiteRoll}, []string{"error 2", "ok"})
}

// P10.8: at most 100 lines.
func TestPlayLength(t *testing.T) {
	wantPlay(t, slices.Repeat([]string{"disputes"}, 100), slices.Repeat([]string{"-"}, 100))
	if l, err := works.Play(plain(), slices.Repeat([]string{"disputes"}, 101)); len(l) != 0 || err != api.ErrArg {
		t.Errorf("Play of 101 lines: %q, error %d", l, err)
	}
}

// P10.8: scripts with losses of power answer as the reference does.
func TestPlayReference(t *testing.T) {
	errors := map[string]int{}
	for seed := range uint64(150) {
		c := setups()[seed%4]
		a := newAuthor(600+seed, c)
		var script []string
		for _, line := range a.write(t, 70) {
			script = append(script, line)
			switch a.r.IntN(12) {
			case 0:
				script = append(script, fmt.Sprintf("arm %d", a.r.IntN(6)))
			case 1:
				script = append(script, fmt.Sprintf("crash %d", a.r.IntN(40)))
			}
		}
		script = script[:min(len(script), 100)]
		before := slices.Clone(script)
		got, err := works.Play(c, script)
		if want := referencePlay(c, script); !slices.Equal(got, want) || err != api.OK {
			t.Fatalf("seed %d: Play of %q: %q, error %d, not %q", seed, script, got, err, want)
		}
		if !slices.Equal(script, before) {
			t.Error("Play changes its lines")
		}
		for _, answer := range got {
			errors[answer]++
		}
	}
	if errors["error 92"] < 50 || errors["error 93"] < 50 {
		t.Errorf("the scripts find the disk down %d times, and the log dead %d times", errors["error 92"], errors["error 93"])
	}
}
