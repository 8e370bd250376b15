package rule_test

import (
	"math/rand/v2"
	"reflect"
	"slices"
	"testing"

	"blazon/api"
	"blazon/rule"
)

// put returns a sign as Propose puts it at an hour.
func put(number, kind, value, chain, dir, rank, hour int) api.Sign {
	return api.Sign{Number: number, Kind: kind, Value: value, Chain: chain, Dir: dir, Rank: rank, Up: hour, Down: hour + 1}
}

func sameSigns(a, b []api.Sign) bool {
	return slices.EqualFunc(a, b, func(a, b api.Sign) bool {
		return len(a.Covers) == 0 && len(b.Covers) == 0 && a.Number == b.Number && a.Kind == b.Kind && a.Value == b.Value &&
			a.Chain == b.Chain && a.Dir == b.Dir && a.Rank == b.Rank && a.Up == b.Up && a.Down == b.Down
	})
}

// P7.7: Propose, with the chapter's example, on the line with a junction at 600.
func TestPropose(t *testing.T) {
	down := func(e api.Edict) api.Edict {
		e.Dir = -1
		return e
	}
	pass := func(e api.Edict) api.Edict {
		e.Topic, e.Value = 2, 1
		return e
	}
	timed := edict(9, 30, 100, 200)
	timed.Start, timed.End = 5, 10
	for _, c := range []struct {
		hour   int
		edicts []api.Edict
		want   []api.Sign
	}{
		{0, nil, nil},
		{0, []api.Edict{edict(1, 50, 100, 300)}, []api.Sign{put(1, 1, 50, 100, 1, 1, 0), put(2, 2, 0, 300, 1, 1, 0)}},
		{maxHour, []api.Edict{edict(1, 50, 100, 300)}, []api.Sign{put(1, 1, 50, 100, 1, 1, maxHour), put(2, 2, 0, 300, 1, 1, maxHour)}},
		// a junction ends what holds, so that no sign has to, and another one has to say it again
		{7, []api.Edict{edict(1, 50, 100, 600)}, []api.Sign{put(1, 1, 50, 100, 1, 1, 7)}},
		{7, []api.Edict{edict(1, 50, 100, 601)}, []api.Sign{put(1, 1, 50, 100, 1, 1, 7), put(2, 1, 50, 600, 1, 1, 7), put(3, 2, 0, 601, 1, 1, 7)}},
		{7, []api.Edict{edict(1, 50, 600, 1000)}, []api.Sign{put(1, 1, 50, 600, 1, 1, 7)}},
		{7, []api.Edict{edict(1, 50, 0, 1000)}, []api.Sign{put(1, 1, 50, 0, 1, 1, 7), put(2, 1, 50, 600, 1, 1, 7)}},
		{7, []api.Edict{edict(1, 50, 999, 1000)}, []api.Sign{put(1, 1, 50, 999, 1, 1, 7)}},
		// nothing is put where an edict begins and ends that changes nothing
		{7, []api.Edict{edict(2, 50, 100, 300), edict(1, 70, 150, 200), edict(3, 50, 250, 260)}, []api.Sign{put(1, 1, 50, 100, 1, 1, 7), put(2, 2, 0, 300, 1, 1, 7)}},
		{7, []api.Edict{edict(1, 50, 100, 300), edict(2, 70, 300, 400)}, []api.Sign{put(1, 1, 50, 100, 1, 1, 7), put(2, 1, 70, 300, 1, 1, 7), put(3, 2, 0, 400, 1, 1, 7)}},
		{4, []api.Edict{timed}, nil},
		{5, []api.Edict{timed}, []api.Sign{put(1, 1, 30, 100, 1, 1, 5), put(2, 2, 0, 200, 1, 1, 5)}},
		{10, []api.Edict{timed}, nil},
		{7, []api.Edict{down(edict(1, 50, 100, 300))}, []api.Sign{put(1, 1, 50, 300, -1, 1, 7), put(2, 2, 0, 100, -1, 1, 7)}},
		{7, []api.Edict{down(edict(1, 50, 0, 1000))}, []api.Sign{put(1, 1, 50, 1000, -1, 1, 7), put(2, 1, 50, 600, -1, 1, 7)}},
		{7, []api.Edict{down(edict(1, 50, 600, 1000))}, []api.Sign{put(1, 1, 50, 1000, -1, 1, 7)}},
		{7, []api.Edict{pass(edict(1, 0, 100, 300))}, []api.Sign{put(1, 3, 0, 100, 1, 2, 7), put(2, 4, 0, 300, 1, 2, 7)}},
		{7, []api.Edict{down(pass(edict(1, 0, 100, 300))), pass(edict(2, 0, 0, 600)), down(edict(3, 90, 0, 1)), edict(4, 200, 999, 1000)}, []api.Sign{
			put(1, 1, 200, 999, 1, 1, 7), put(2, 1, 90, 1, -1, 1, 7), put(3, 3, 0, 0, 1, 2, 7), put(4, 3, 0, 300, -1, 2, 7), put(5, 4, 0, 100, -1, 2, 7),
		}},
	} {
		if got, err := rule.Propose(line(), c.edicts, c.hour); !sameSigns(got, c.want) || err != api.OK {
			t.Errorf("Propose of %v at the hour %d: %v, error %d, not %v", c.edicts, c.hour, got, err, c.want)
		}
	}
}

// P7.7: as many signs as there may be are proposed, and one more is ErrArg.
func TestProposeMost(t *testing.T) {
	l := api.Line{Length: 100000}
	var laws []api.Edict
	for i := range 50 {
		laws = append(laws, edict(i+1, 50, 2000*i+100, 2000*i+200))
	}
	got, err := rule.Propose(l, laws, 0)
	if len(got) != 100 || err != api.OK || !rule.ValidSigns(l, got) {
		t.Errorf("Propose: %d signs, error %d", len(got), err)
	}
	l.Junctions = []int{150}
	if got, err := rule.Propose(l, laws, 0); len(got) != 0 || err != api.ErrArg {
		t.Errorf("Propose of one sign too many: %d signs, error %d", len(got), err)
	}
	laws[49].To = 100000 // needs no end
	if got, err := rule.Propose(l, laws, 0); len(got) != 100 || err != api.OK {
		t.Errorf("Propose: %d signs, error %d", len(got), err)
	}
	l.Junctions = nil
	for j := range 50 {
		l.Junctions = append(l.Junctions, 2000*j+500)
	}
	if got, err := rule.Propose(l, []api.Edict{edict(1, 50, 0, 100000)}, 0); len(got) != 51 || err != api.OK {
		t.Errorf("Propose with junctions: %d signs, error %d", len(got), err)
	}
	both := []api.Edict{edict(1, 50, 0, 100000), edict(2, 50, 0, 100000)}
	both[1].Dir = -1
	if got, err := rule.Propose(l, both, 0); len(got) != 0 || err != api.ErrArg {
		t.Errorf("Propose with junctions in both directions: %d signs, error %d", len(got), err)
	}
	if got, err := rule.Propose(l, both, -1); len(got) != 0 || err != api.ErrArg {
		t.Errorf("Propose at no hour: %d signs, error %d", len(got), err)
	}
}

// P7.7, P7.10: what is proposed is as the second way says, is valid, and leaves no gap; without edicts it is nothing.
func TestSomeProposals(t *testing.T) {
	r := rand.New(rand.NewPCG(7, 7))
	for range 4000 {
		l := someLine(r)
		laws, hour := someEdicts(r, l, 10), tries()[r.IntN(30)]
		want := referencePropose(l, laws, hour)
		got, err := rule.Propose(l, laws, hour)
		if !sameSigns(got, want) || err != api.OK || !rule.ValidSigns(l, got) {
			t.Fatalf("Propose of %v on %v at the hour %d: %v, error %d, not %v", laws, l, hour, got, err, want)
		}
		if gaps, err := rule.Compare(l, got, laws, hour); len(gaps) != 0 || err != api.OK {
			t.Fatalf("Compare of what is proposed for %v on %v at the hour %d: %v, error %d", laws, l, hour, gaps, err)
		}
		if none, err := rule.Propose(l, nil, hour); len(none) != 0 || err != api.OK {
			t.Fatalf("Propose without edicts: %v, error %d", none, err)
		}
		if again, _ := rule.Propose(l, laws, hour); len(got) > 0 && (!reflect.DeepEqual(again, got) || &again[0] == &got[0]) {
			t.Fatalf("Propose again: %v, not %v", again, got)
		}
	}
}
