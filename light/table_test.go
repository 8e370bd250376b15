package light_test

import (
	"math"
	"math/rand/v2"
	"slices"
	"strconv"
	"testing"

	"blazon/api"
	"blazon/light"
)

// goodTable is the table of the chapter's example.
func goodTable() api.Table {
	return api.Table{Obs: []int{3500, 17500}, Ent: []int{90000, 580000}, R: [][]int{{250, 110}, {80, 10}}}
}

// tableWith returns a good table after a change.
func tableWith(change func(t *api.Table)) api.Table {
	t := goodTable()
	change(&t)
	return t
}

// flatTable returns a table with the coefficient c everywhere, and slopes that end with the greatest ones.
func flatTable(obs, ent, c int) api.Table {
	var t api.Table
	for k := range obs {
		t.Obs = append(t.Obs, 1000000-obs+k+1)
		t.R = append(t.R, slices.Repeat([]int{c}, ent))
	}
	for k := range ent {
		t.Ent = append(t.Ent, 1000000-ent+k+1)
	}
	return t
}

func cloneTable(t api.Table) api.Table {
	c := api.Table{Obs: slices.Clone(t.Obs), Ent: slices.Clone(t.Ent)}
	for _, row := range t.R {
		c.R = append(c.R, slices.Clone(row))
	}
	return c
}

func sameTable(t, u api.Table) bool {
	return slices.Equal(t.Obs, u.Obs) && slices.Equal(t.Ent, u.Ent) && slices.EqualFunc(t.R, u.R, slices.Equal[[]int])
}

func isZero(t api.Table) bool {
	return len(t.Obs) == 0 && len(t.Ent) == 0 && len(t.R) == 0
}

// invalidTables returns tables that are not valid for one reason each.
func invalidTables() map[string]api.Table {
	tables := map[string]api.Table{
		"nothing":           {},
		"one Obs":           flatTable(1, 3, 5),
		"one Ent":           flatTable(3, 1, 5),
		"no Ent":            {Obs: []int{1, 2}, R: [][]int{nil, nil}},
		"no Obs":            {Ent: []int{1, 2}},
		"7 Obs":             flatTable(7, 3, 5),
		"7 Ent":             flatTable(3, 7, 5),
		"no R":              tableWith(func(t *api.Table) { t.R = nil }),
		"a row less":        tableWith(func(t *api.Table) { t.R = t.R[:1] }),
		"a row more":        tableWith(func(t *api.Table) { t.R = append(t.R, []int{0, 0}) }),
		"nil rows":          tableWith(func(t *api.Table) { t.R = [][]int{nil, nil} }),
		"a nil row":         tableWith(func(t *api.Table) { t.R[1] = nil }),
		"a short row":       tableWith(func(t *api.Table) { t.R[1] = t.R[1][:1] }),
		"a long row":        tableWith(func(t *api.Table) { t.R[0] = append(t.R[0], 0) }),
		"long rows":         tableWith(func(t *api.Table) { t.R = [][]int{{250, 110, 0}, {80, 10, 0}} }),
		"R the other way":   {Obs: []int{1, 2}, Ent: []int{1, 2, 3}, R: [][]int{{1, 1}, {1, 1}, {1, 1}}},
		"ascending row":     tableWith(func(t *api.Table) { t.R[0][1] = 251 }),
		"ascending row 1":   tableWith(func(t *api.Table) { t.R[1][1] = 81 }),
		"ascending column":  tableWith(func(t *api.Table) { t.R[1][0] = 251 }),
		"ascending corner":  tableWith(func(t *api.Table) { t.R = [][]int{{250, 9}, {80, 10}} }),
		"a later ascending": {Obs: []int{1, 2}, Ent: []int{1, 2, 3}, R: [][]int{{9, 7, 8}, {9, 6, 5}}},
		"a lower ascending": {Obs: []int{1, 2, 3}, Ent: []int{1, 2}, R: [][]int{{9, 9}, {7, 6}, {8, 5}}},
	}
	for _, c := range []int{-1, 100001, math.MinInt, math.MaxInt} {
		tables["only the coefficient "+strconv.Itoa(c)] = flatTable(3, 3, c)
	}
	for _, c := range []int{-1, math.MinInt} {
		tables["the last coefficient "+strconv.Itoa(c)] = tableWith(func(t *api.Table) { t.R[1][1] = c })
	}
	for _, c := range []int{100001, math.MaxInt} {
		tables["the first coefficient "+strconv.Itoa(c)] = tableWith(func(t *api.Table) { t.R[0][0] = c })
	}
	for name, slopes := range map[string][]int{
		"the slope 0":            {0, 5},
		"the slope -1":           {-1, 5},
		"the slope 1000001":      {5, 1000001},
		"only slopes above":      {1000001, 1000002},
		"the greatest slope":     {5, math.MaxInt},
		"the least slope":        {math.MinInt, 5},
		"equal slopes":           {5, 5},
		"descending slopes":      {5, 4},
		"slopes 5, 0":            {5, 0},
		"slopes from end to 1":   {1000000, 1},
		"slopes of two extremes": {math.MinInt, math.MaxInt},
	} {
		tables[name+" in Obs"] = tableWith(func(t *api.Table) { t.Obs = slopes })
		tables[name+" in Ent"] = tableWith(func(t *api.Table) { t.Ent = slopes })
	}
	tables["equal slopes behind"] = api.Table{Obs: []int{1, 2}, Ent: []int{1, 7, 7}, R: [][]int{{3, 2, 1}, {3, 2, 1}}}
	tables["descending behind"] = api.Table{Obs: []int{1, 7, 6}, Ent: []int{1, 2}, R: [][]int{{3, 2}, {3, 2}, {3, 2}}}
	return tables
}

// validTables returns valid tables of all kinds.
func validTables() map[string]api.Table {
	return map[string]api.Table{
		"example":             goodTable(),
		"least":               {Obs: []int{1, 2}, Ent: []int{1, 2}, R: [][]int{{0, 0}, {0, 0}}},
		"greatest":            flatTable(6, 6, 100000),
		"2 and 6":             flatTable(2, 6, 1),
		"6 and 2":             flatTable(6, 2, 1),
		"from end to end":     {Obs: []int{1, 1000000}, Ent: []int{1, 1000000}, R: [][]int{{100000, 0}, {0, 0}}},
		"equal in a row":      tableWith(func(t *api.Table) { t.R[0][1] = 250 }),
		"equal in a column":   tableWith(func(t *api.Table) { t.R[1][0] = 250 }),
		"greater by diagonal": tableWith(func(t *api.Table) { t.R = [][]int{{9, 3}, {5, 3}} }),
		"hidden behind": {
			Obs: []int{1, 2, 0}[:2], Ent: []int{1, 2, 0}[:2],
			R: [][]int{[]int{5, 4, -1}[:2], []int{5, 4, 77}[:2], nil}[:2],
		},
	}
}

// P3.1: ValidTable.
func TestValidTable(t *testing.T) {
	for name, table := range invalidTables() {
		if light.ValidTable(table) {
			t.Errorf("a table with %s is valid: %v", name, table)
		}
	}
	for name, table := range validTables() {
		if !light.ValidTable(table) {
			t.Errorf("%s: the table is not valid: %v", name, table)
		}
	}
}

// P3.2: Coefficient, with the chapter's example, at the slopes of the table and beyond both of its ends.
func TestCoefficient(t *testing.T) {
	for _, c := range []struct{ obs, ent, want int }{
		{3500, 90000, 250},
		{10500, 90000, 165},
		{20000, 90000, 0},
		{3500, 580000, 110},
		{17500, 90000, 80},
		{17500, 580000, 10},
		{0, 0, 250},
		{3499, 89999, 250},
		{0, 580000, 110},
		{17500, 0, 80},
		{3500, 335000, 180},
		{10500, 335000, 112}, // (250 + 110 + 80 + 10) / 4
		{3501, 90000, 249},   // 250 less 170 / 14000
		{3500, 90001, 249},
		{17499, 90000, 80},
		{17500, 579999, 10},
		{17501, 90000, 0},
		{3500, 580001, 0},
		{17501, 580001, 0},
		{0, math.MaxInt, 0},
		{math.MaxInt, 0, 0},
		{math.MaxInt, math.MaxInt, 0},
	} {
		if got, err := light.Coefficient(goodTable(), c.obs, c.ent); got != c.want || err != api.OK {
			t.Errorf("Coefficient at %d, %d: %d, error %d, not %d", c.obs, c.ent, got, err, c.want)
		}
	}
	for _, slope := range []int{1, 999994, 999995, 999996, 1000000} {
		if got, err := light.Coefficient(flatTable(6, 6, 100000), slope, slope); got != 100000 || err != api.OK {
			t.Errorf("Coefficient of the flat table at %d: %d, error %d", slope, got, err)
		}
	}
	if got, err := light.Coefficient(flatTable(6, 6, 100000), 1000001, 1); got != 0 || err != api.OK {
		t.Errorf("Coefficient above the greatest slope: %d, error %d", got, err)
	}
}

// P3.2: the errors of Coefficient and their order.
func TestCoefficientErrors(t *testing.T) {
	for name, table := range invalidTables() {
		for _, slope := range []int{5000, -1} {
			if got, err := light.Coefficient(table, slope, slope); got != 0 || err != api.ErrTable {
				t.Errorf("Coefficient of a table with %s: %d, error %d", name, got, err)
			}
		}
	}
	for _, slopes := range [][2]int{{-1, 90000}, {3500, -1}, {-1, -1}, {math.MinInt, 0}, {0, math.MinInt}, {math.MaxInt, -1}, {-1, math.MaxInt}} {
		if got, err := light.Coefficient(goodTable(), slopes[0], slopes[1]); got != 0 || err != api.ErrArg {
			t.Errorf("Coefficient at %v: %d, error %d", slopes, got, err)
		}
	}
}

// P3.2, R5: Coefficient by exact numbers, between each pair of slopes around a place. R4: it does not change the table.
func TestCoefficientExactly(t *testing.T) {
	r := rand.New(rand.NewPCG(31, 1))
	for range 3000 {
		table := someTable(r)
		kept := cloneTable(table)
		for range 20 {
			obs, ent := someSlope(r, table.Obs), someSlope(r, table.Ent)
			got, err := light.Coefficient(table, obs, ent)
			for _, want := range exactCoefficients(table, obs, ent) {
				if got != want || err != api.OK {
					t.Fatalf("Coefficient of %v at %d, %d: %d, error %d, not %d", table, obs, ent, got, err, want)
				}
			}
		}
		if !sameTable(table, kept) {
			t.Fatalf("Coefficient changed %v to %v", kept, table)
		}
	}
}

// P3.9: Coefficient never grows with a slope, is the table's at its slopes, and lies between the four around it.
func TestTables(t *testing.T) {
	r := rand.New(rand.NewPCG(39, 1))
	at := func(table api.Table, obs, ent int) int {
		c, err := light.Coefficient(table, obs, ent)
		if err != api.OK {
			t.Fatalf("Coefficient of %v at %d, %d: error %d", table, obs, ent, err)
		}
		return c
	}
	for range 2000 {
		table := someTable(r)
		for i, obs := range table.Obs {
			for j, ent := range table.Ent {
				if c := at(table, obs, ent); c != table.R[i][j] {
					t.Fatalf("Coefficient of %v at its slopes %d, %d: %d", table, obs, ent, c)
				}
			}
		}
		obs, ent := someSlope(r, table.Obs), someSlope(r, table.Ent)
		c := at(table, obs, ent)
		more := 1 + r.IntN(2000)
		if at(table, obs+1, ent) > c || at(table, obs, ent+1) > c || at(table, obs+more, ent+more) > c {
			t.Fatalf("Coefficient of %v grows behind %d, %d", table, obs, ent)
		}
		i := r.IntN(len(table.Obs) - 1)
		j := r.IntN(len(table.Ent) - 1)
		obs = table.Obs[i] + r.IntN(table.Obs[i+1]-table.Obs[i]+1)
		ent = table.Ent[j] + r.IntN(table.Ent[j+1]-table.Ent[j]+1)
		if c := at(table, obs, ent); c < table.R[i+1][j+1] || c > table.R[i][j] {
			t.Fatalf("Coefficient of %v at %d, %d: %d", table, obs, ent, c)
		}
	}
}

// P3.5: Better.
func TestBetter(t *testing.T) {
	for _, c := range []struct {
		name string
		t, u api.Table
		want bool
	}{
		{"the same", goodTable(), goodTable(), true},
		{"one greater", tableWith(func(t *api.Table) { t.R[1][1] = 11 }), goodTable(), true},
		{"the first one less", tableWith(func(t *api.Table) { t.R[0][0] = 249 }), goodTable(), false},
		{"the last one less", tableWith(func(t *api.Table) { t.R[1][1] = 9 }), goodTable(), false},
		{"one greater, one less", tableWith(func(t *api.Table) { t.R = [][]int{{251, 110}, {79, 10}} }), goodTable(), false},
		{"another Obs", tableWith(func(t *api.Table) { t.Obs[1]++ }), goodTable(), false},
		{"another Ent", tableWith(func(t *api.Table) { t.Ent[0]-- }), goodTable(), false},
		{"more Obs", flatTable(3, 2, 5), flatTable(2, 2, 5), false},
		{"fewer Obs", flatTable(2, 2, 5), flatTable(3, 2, 5), false},
		{"more Ent", flatTable(2, 3, 5), flatTable(2, 2, 5), false},
		{"fewer Ent", flatTable(2, 2, 5), flatTable(2, 3, 5), false},
		{"a slope more behind", api.Table{Obs: []int{3500, 17500, 20000}, Ent: []int{90000, 580000}, R: [][]int{{250, 110}, {80, 10}, {5, 1}}}, goodTable(), false},
		{"a slope less behind", goodTable(), api.Table{Obs: []int{3500, 17500, 20000}, Ent: []int{90000, 580000}, R: [][]int{{250, 110}, {80, 10}, {5, 1}}}, false},
		{"Obs and Ent of the other", api.Table{Obs: []int{1, 2}, Ent: []int{3, 4}, R: [][]int{{1, 1}, {1, 1}}}, api.Table{Obs: []int{3, 4}, Ent: []int{1, 2}, R: [][]int{{1, 1}, {1, 1}}}, false},
		{"flat", flatTable(6, 6, 100000), flatTable(6, 6, 0), true},
	} {
		if got, err := light.Better(c.t, c.u); got != c.want || err != api.OK {
			t.Errorf("%s: Better returns %v, error %d", c.name, got, err)
		}
	}
	for name, table := range invalidTables() {
		for k, pair := range [][2]api.Table{{table, goodTable()}, {goodTable(), table}, {table, table}} {
			if got, err := light.Better(pair[0], pair[1]); got || err != api.ErrTable {
				t.Errorf("Better of a table with %s, pair %d: %v, error %d", name, k, got, err)
			}
		}
	}
}

// P3.5: Dimmed is Aged at each place.
func TestDimmed(t *testing.T) {
	r := rand.New(rand.NewPCG(35, 1))
	for range 500 {
		table, keep, years := someTable(r), r.IntN(1001), r.IntN(20)
		kept := cloneTable(table)
		got, err := light.Dimmed(table, keep, years)
		want := cloneTable(table)
		for _, row := range want.R {
			for j := range row {
				row[j] = exactAged(row[j], keep, years)
			}
		}
		if !sameTable(got, want) || err != api.OK || !light.ValidTable(got) {
			t.Fatalf("Dimmed of %v by %d, %d years: %v, error %d, not %v", table, keep, years, got, err, want)
		}
		if !sameTable(table, kept) {
			t.Fatalf("Dimmed changed %v to %v", kept, table)
		}
	}
	for _, c := range [][2]int{{0, 0}, {1000, 300}, {1000, 0}} {
		if got, err := light.Dimmed(goodTable(), c[0], c[1]); !sameTable(got, goodTable()) || err != api.OK {
			t.Errorf("Dimmed by %v: %v, error %d", c, got, err)
		}
	}
}

// P3.5: the errors of Dimmed and their order.
func TestDimmedErrors(t *testing.T) {
	for name, table := range invalidTables() {
		for _, keep := range []int{900, 1001} {
			if got, err := light.Dimmed(table, keep, 2); !isZero(got) || err != api.ErrTable {
				t.Errorf("Dimmed of a table with %s: %v, error %d", name, got, err)
			}
		}
	}
	for _, c := range badAgeing() {
		if got, err := light.Dimmed(goodTable(), c[0], c[1]); !isZero(got) || err != api.ErrArg {
			t.Errorf("Dimmed by %v: %v, error %d", c, got, err)
		}
	}
}

// R4: what Dimmed returns is new memory, and no two of its lists share any.
func TestDimmedShares(t *testing.T) {
	table := goodTable()
	got, err := light.Dimmed(table, 1000, 1)
	if err != api.OK {
		t.Fatalf("Dimmed: error %d", err)
	}
	lists := append([][]int{got.Obs, got.Ent}, got.R...)
	for k, list := range lists {
		for i := range list[:cap(list)] {
			list[:cap(list)][i] = -1 - k
		}
	}
	for k, list := range lists {
		for _, n := range list {
			if n != -1-k {
				t.Fatalf("lists of the result share memory: %v", lists)
			}
		}
	}
	if !sameTable(table, goodTable()) {
		t.Errorf("the result shares memory with the argument: %v", table)
	}
}
