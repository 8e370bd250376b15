package light_test

import (
	"math"
	"math/rand/v2"
	"slices"
	"testing"

	"blazon/api"
	"blazon/light"
)

// goodScene is the scene of the chapter's example.
func goodScene() api.Scene {
	return api.Scene{Rise: 650, Power: 20000}
}

// sceneFields are the fields of a scene with the greatest values that they may have; the least one is 0.
func sceneFields() []struct {
	field func(s *api.Scene) *int
	most  int
} {
	return []struct {
		field func(s *api.Scene) *int
		most  int
	}{
		{func(s *api.Scene) *int { return &s.Rise }, 5000},
		{func(s *api.Scene) *int { return &s.Side }, 50000},
		{func(s *api.Scene) *int { return &s.Turn }, 1000000},
		{func(s *api.Scene) *int { return &s.Power }, 100000},
	}
}

// invalidScenes returns scenes that are not valid for one reason each.
func invalidScenes() []api.Scene {
	var scenes []api.Scene
	for _, f := range sceneFields() {
		for _, n := range []int{-1, f.most + 1, math.MinInt, math.MaxInt} {
			s := goodScene()
			*f.field(&s) = n
			scenes = append(scenes, s)
		}
	}
	return scenes
}

// P3.1: ValidScene.
func TestValidScene(t *testing.T) {
	for _, s := range invalidScenes() {
		if light.ValidScene(s) {
			t.Errorf("the scene is valid: %v", s)
		}
	}
	scenes := []api.Scene{{}, goodScene(), {Rise: 5000, Side: 50000, Turn: 1000000, Power: 100000}}
	for _, f := range sceneFields() {
		s := goodScene()
		*f.field(&s) = f.most
		scenes = append(scenes, s)
	}
	for _, s := range scenes {
		if !light.ValidScene(s) {
			t.Errorf("the scene is not valid: %v", s)
		}
	}
}

// P3.3: Bright, with the chapter's example and at its limits.
func TestBright(t *testing.T) {
	flat := api.Table{Obs: []int{1, 10000}, Ent: []int{1, 10000}, R: [][]int{{200, 200}, {200, 200}}}
	steep := api.Table{Obs: []int{6565, 6566}, Ent: []int{40, 41}, R: [][]int{{1000, 100}, {10, 1}}}
	full := flatTable(2, 2, 100000)
	for _, c := range []struct {
		table api.Table
		scene api.Scene
		d     int
		want  int
	}{
		{flat, goodScene(), 100, 400},
		{flat, goodScene(), 65, 946}, // 4000000 / 4225; the slope is 10000
		{flat, goodScene(), 64, 0},   // the slope is 10156.25
		{flat, api.Scene{Power: 20000}, 1, 4000000},
		{flat, api.Scene{Power: 0}, 1, 0},
		{flat, api.Scene{Power: 799}, 400, 0},
		{flat, api.Scene{Power: 800}, 400, 1},
		{full, api.Scene{Power: 100000}, 1, 10000000000},
		{full, api.Scene{Rise: 5000, Side: 50000, Turn: 1000000, Power: 100000}, 400, 0},
		{full, api.Scene{Rise: 5000, Turn: 1000000, Power: 100000}, 400, 62500},
		{full, api.Scene{Rise: 5000, Side: 50000, Turn: 875000, Power: 100000}, 400, 62500},
		{full, api.Scene{Rise: 5000, Side: 50000, Turn: 875001, Power: 100000}, 400, 0},
		{full, api.Scene{Rise: 5000, Side: 50000, Turn: 1000000, Power: 100000}, 1, 0},
		// the slopes are rounded up, and Turn is added behind that
		{steep, api.Scene{Power: 9801}, 99, 1000},
		{steep, api.Scene{Rise: 650, Power: 9801}, 99, 10},                  // 6565.66
		{steep, api.Scene{Side: 4, Power: 9801}, 99, 100},                   // 40.4
		{steep, api.Scene{Rise: 650, Side: 4, Power: 9801}, 99, 1},          // both
		{steep, api.Scene{Side: 3, Turn: 9, Power: 9801}, 99, 1000},         // 30.3
		{steep, api.Scene{Side: 3, Turn: 10, Power: 9801}, 99, 100},         // 30.3
		{steep, api.Scene{Side: 3, Turn: 11, Power: 9801}, 99, 0},           // 30.3
		{steep, api.Scene{Rise: 650, Side: 4, Turn: 1, Power: 9801}, 99, 0}, // 40.4
		{steep, api.Scene{Rise: 651, Power: 9801}, 99, 0},                   // 6575.75
		{steep, api.Scene{Side: 4, Power: 10000}, 100, 1000},                // 40
	} {
		if got, err := light.Bright(c.table, c.scene, c.d); got != c.want || err != api.OK {
			t.Errorf("Bright of %v in %v at %d: %d, error %d, not %d", c.table, c.scene, c.d, got, err, c.want)
		}
	}
}

// P3.3, R5: Bright by exact numbers.
func TestBrightExactly(t *testing.T) {
	r := rand.New(rand.NewPCG(33, 1))
	for range 10000 {
		table, scene, d := someTable(r), someScene(r), 1+r.IntN(400)
		if r.IntN(2) == 0 {
			// at and beside the slopes of the table
			scene.Turn, scene.Side = max(0, table.Ent[r.IntN(len(table.Ent))]-r.IntN(3)), r.IntN(3)
		}
		got, err := light.Bright(table, scene, d)
		if want := exactBright(table, scene, d); got != want || err != api.OK {
			t.Fatalf("Bright of %v in %v at %d: %d, error %d, not %d", table, scene, d, got, err, want)
		}
	}
}

// P3.3: the errors of Bright and their order.
func TestBrightErrors(t *testing.T) {
	want := func(table api.Table, scene api.Scene, d int, e api.Errno) {
		t.Helper()
		if got, err := light.Bright(table, scene, d); got != 0 || err != e {
			t.Errorf("Bright of %v in %v at %d: %d, error %d, not %d", table, scene, d, got, err, e)
		}
	}
	bad := api.Scene{Rise: -1}
	for _, table := range invalidTables() {
		want(table, goodScene(), 100, api.ErrTable)
		want(table, bad, 100, api.ErrTable)
		want(table, goodScene(), 0, api.ErrTable)
		want(table, bad, 0, api.ErrTable)
	}
	for _, scene := range invalidScenes() {
		want(goodTable(), scene, 100, api.ErrScene)
		want(goodTable(), scene, 0, api.ErrScene)
	}
	for _, d := range []int{0, -1, 401, math.MinInt, math.MaxInt} {
		want(goodTable(), goodScene(), d, api.ErrArg)
	}
}

// P3.4: Legible where the letters, the power or the slopes are its ends.
func TestLegible(t *testing.T) {
	flat := api.Table{Obs: []int{1, 10000}, Ent: []int{1, 10000}, R: [][]int{{200, 200}, {200, 200}}}
	all := []api.Span{{From: 1, To: 401}}
	for _, c := range []struct {
		scene        api.Scene
		need, letter int
		want         []api.Span
	}{
		{goodScene(), 400, 2000, []api.Span{{From: 65, To: 101}}},
		{goodScene(), 401, 2000, []api.Span{{From: 65, To: 100}}},
		{goodScene(), 400, 160, []api.Span{{From: 65, To: 97}}},
		{goodScene(), 400, 109, []api.Span{{From: 65, To: 66}}},
		{goodScene(), 400, 108, nil},
		{goodScene(), 1000, 2000, nil},
		{goodScene(), 0, 2000, all},
		{goodScene(), 0, 667, all},
		{goodScene(), 0, 666, []api.Span{{From: 1, To: 400}}},
		{goodScene(), 0, 1, nil},
		{goodScene(), 0, 2, []api.Span{{From: 1, To: 2}}},
		{goodScene(), 0, 3, []api.Span{{From: 1, To: 2}}},
		{goodScene(), 0, 4, []api.Span{{From: 1, To: 3}}},
		{api.Scene{}, 0, 2000, all},
		{api.Scene{}, 1, 2000, nil},
		{api.Scene{Power: 800}, 1, 2000, all},
		{api.Scene{Power: 100000}, 1000000000, 2000, nil},
	} {
		got, err := light.Legible(flat, c.scene, c.need, c.letter)
		if !slices.Equal(got, c.want) || err != api.OK {
			t.Errorf("Legible in %v with %d, %d: %v, error %d, not %v", c.scene, c.need, c.letter, got, err, c.want)
		}
	}
	bright := flatTable(2, 2, 100000)
	if got, err := light.Legible(bright, api.Scene{Power: 100000}, 1000000000, 2000); !slices.Equal(got, []api.Span{{From: 1, To: 4}}) || err != api.OK {
		t.Errorf("Legible with the greatest need: %v, error %d", got, err)
	}
}

// twice is a face that is legible near by, where one step of the table is enough, and again behind the next step.
func twice() (api.Table, api.Scene, int) {
	table := api.Table{Obs: []int{1, 10000, 10001, 50000}, Ent: []int{1, 2}, R: [][]int{{900, 900}, {900, 900}, {100, 100}, {100, 100}}}
	return table, api.Scene{Rise: 1000, Power: 10000}, 600
}

// P3.4: distances that are apart are spans of their own.
func TestLegibleTwice(t *testing.T) {
	table, scene, need := twice()
	// 1000000 / d^2 is at least 600 up to 40, and 9000000 / d^2 from 100 to 122
	want := []api.Span{{From: 20, To: 41}, {From: 100, To: 123}}
	if got, err := light.Legible(table, scene, need, 2000); !slices.Equal(got, want) || err != api.OK {
		t.Errorf("Legible: %v, error %d, not %v", got, err, want)
	}
}

// checkSpans fails the test if spans are empty, not in ascending order or not apart.
func checkSpans(t *testing.T, spans []api.Span) {
	t.Helper()
	end := 0
	for _, s := range spans {
		if s.From <= end || s.To <= s.From || s.To > 401 {
			t.Fatalf("the spans are %v", spans)
		}
		end = s.To
	}
}

func has(spans []api.Span, d int) bool {
	return slices.ContainsFunc(spans, func(s api.Span) bool { return s.From <= d && d < s.To })
}

// P3.4: Legible by exact numbers, at each distance.
func TestLegibleExactly(t *testing.T) {
	r := rand.New(rand.NewPCG(34, 1))
	for range 200 {
		table, scene, letter := someTable(r), someScene(r), 1+r.IntN(2000)
		need := exactBright(table, scene, 1+r.IntN(400))
		need = min(need+r.IntN(2), 1000000000)
		spans, err := light.Legible(table, scene, need, letter)
		if err != api.OK {
			t.Fatalf("Legible of %v in %v: error %d", table, scene, err)
		}
		checkSpans(t, spans)
		for d := range 402 {
			if want := 1 <= d && d <= 400 && exactLegible(table, scene, need, letter, d); has(spans, d) != want {
				t.Fatalf("Legible of %v in %v with %d, %d: %v, wrong at %d", table, scene, need, letter, spans, d)
			}
		}
	}
}

// P3.4: the errors of Legible and their order.
func TestLegibleErrors(t *testing.T) {
	want := func(table api.Table, scene api.Scene, need, letter int, e api.Errno) {
		t.Helper()
		if got, err := light.Legible(table, scene, need, letter); len(got) != 0 || err != e {
			t.Errorf("Legible of %v in %v with %d, %d: %v, error %d, not %d", table, scene, need, letter, got, err, e)
		}
	}
	bad := api.Scene{Power: 100001}
	for _, table := range invalidTables() {
		want(table, goodScene(), 0, 100, api.ErrTable)
		want(table, bad, 0, 100, api.ErrTable)
		want(table, bad, -1, 0, api.ErrTable)
	}
	for _, scene := range invalidScenes() {
		want(goodTable(), scene, 0, 100, api.ErrScene)
		want(goodTable(), scene, -1, 100, api.ErrScene)
		want(goodTable(), scene, 0, 0, api.ErrScene)
	}
	for _, need := range []int{-1, 1000000001, math.MinInt, math.MaxInt} {
		want(goodTable(), goodScene(), need, 100, api.ErrArg)
	}
	for _, letter := range []int{0, -1, 2001, math.MinInt, math.MaxInt} {
		want(goodTable(), goodScene(), 0, letter, api.ErrArg)
	}
}

// P3.4: Reading.
func TestReading(t *testing.T) {
	single := func(n int) []api.Span {
		var spans []api.Span
		for d := range n {
			spans = append(spans, api.Span{From: d + 1, To: d + 2})
		}
		return spans
	}
	for _, c := range []struct {
		spans []api.Span
		speed int
		want  int
	}{
		{nil, 50, 0},
		{[]api.Span{}, 1, 0},
		{[]api.Span{{From: 1, To: 401}}, 1, 1440000},
		{[]api.Span{{From: 1, To: 401}}, 300, 4800},
		{[]api.Span{{From: 65, To: 101}}, 50, 2592},
		{[]api.Span{{From: 1, To: 2}}, 7, 514},
		{[]api.Span{{From: 400, To: 401}}, 299, 12},
		{[]api.Span{{From: 5, To: 10}, {From: 10, To: 12}}, 100, 252},
		{[]api.Span{{From: 5, To: 10}, {From: 11, To: 12}}, 100, 216},
		{[]api.Span{{From: 5, To: 6}, {From: 7, To: 8}, {From: 9, To: 10}}, 7, 1542}, // not 3 * 514, and not 3 / 7 * 3600
		{single(400), 3, 480000},
		{append(single(2), api.Span{})[:2], 3600 / 36, 72},
	} {
		if got, err := light.Reading(c.spans, c.speed); got != c.want || err != api.OK {
			t.Errorf("Reading of %v with %d: %d, error %d, not %d", c.spans, c.speed, got, err, c.want)
		}
	}
}

// P3.4: the errors of Reading.
func TestReadingErrors(t *testing.T) {
	for _, speed := range []int{0, -1, 301, math.MinInt, math.MaxInt} {
		for _, spans := range [][]api.Span{nil, {{From: 1, To: 2}}} {
			if got, err := light.Reading(spans, speed); got != 0 || err != api.ErrArg {
				t.Errorf("Reading of %v with %d: %d, error %d", spans, speed, got, err)
			}
		}
	}
	for _, spans := range [][]api.Span{
		{{}},
		{{From: 5, To: 5}},
		{{From: 6, To: 5}},
		{{From: 0, To: 5}},
		{{From: -3, To: 5}},
		{{From: 5, To: 402}},
		{{From: 401, To: 401}},
		{{From: 401, To: 402}},
		{{From: 500, To: 600}},
		{{From: 1, To: 401}, {From: 401, To: 402}},
		{{From: 5, To: 10}, {From: 9, To: 12}},
		{{From: 5, To: 10}, {From: 5, To: 10}},
		{{From: 5, To: 10}, {From: 1, To: 3}},
		{{From: 5, To: 10}, {From: 10, To: 10}},
		{{From: 5, To: 10}, {From: 12, To: 11}},
		{{From: 5, To: 10}, {From: 20, To: 30}, {From: 15, To: 17}},
		{{From: math.MinInt, To: math.MaxInt}},
		{{From: 1, To: math.MaxInt}},
		{{From: math.MinInt, To: 5}},
		{{From: math.MaxInt, To: math.MinInt}},
		{{From: 5, To: math.MinInt}},
	} {
		if got, err := light.Reading(spans, 50); got != 0 || err != api.ErrArg {
			t.Errorf("Reading of %v: %d, error %d", spans, got, err)
		}
	}
}

// legible returns the distances of Legible for arguments that are valid.
func legible(t *testing.T, table api.Table, scene api.Scene, need, letter int) []api.Span {
	t.Helper()
	spans, err := light.Legible(table, scene, need, letter)
	if err != api.OK {
		t.Fatalf("Legible of %v in %v with %d, %d: error %d", table, scene, need, letter, err)
	}
	return spans
}

// checkMore fails the test if there is a distance in some but not in more.
func checkMore(t *testing.T, name string, some, more []api.Span) {
	t.Helper()
	for d := range 402 {
		if has(some, d) && !has(more, d) {
			t.Fatalf("%s: %v became %v", name, some, more)
		}
	}
}

// P3.10: better tables, more power, larger letters and lesser needs take no distance away; Reading falls with speed.
func TestSeeing(t *testing.T) {
	r := rand.New(rand.NewPCG(310, 1))
	for range 150 {
		u, scene, letter := someTable(r), someScene(r), 1+r.IntN(1500)
		need := min(exactBright(u, scene, 1+r.IntN(400)), 1000000000)
		spans := legible(t, u, scene, need, letter)
		worse, err := light.Dimmed(u, 500+r.IntN(501), 1)
		if better, _ := light.Better(u, worse); err != api.OK || !better {
			t.Fatalf("%v is not better than %v", u, worse)
		}
		for d := 1; d <= 400; d++ {
			more, _ := light.Bright(u, scene, d)
			if less, _ := light.Bright(worse, scene, d); less > more {
				t.Fatalf("%v is brighter than %v in %v at %d", worse, u, scene, d)
			}
		}
		checkMore(t, "a better table", legible(t, worse, scene, need, letter), spans)
		power := scene
		power.Power = min(scene.Power+1+r.IntN(1000), 100000)
		checkMore(t, "more power", spans, legible(t, u, power, need, letter))
		checkMore(t, "larger letters", spans, legible(t, u, scene, need, letter+1+r.IntN(500)))
		checkMore(t, "a lesser need", spans, legible(t, u, scene, max(0, need-1-r.IntN(100)), letter))
		slow := 1 + r.IntN(299)
		long, _ := light.Reading(spans, slow)
		if short, err := light.Reading(spans, slow+1); err != api.OK || short > long {
			t.Fatalf("Reading of %v: %d with %d, and then %d, error %d", spans, long, slow, short, err)
		}
	}
}
