package inactive_test

import (
	"math"
	"slices"
	"testing"

	"downpour/api"
	"downpour/bitrow"
	"downpour/inactive"
	"downpour/matrix"
	"downpour/reduce"
	"downpour/sample"
)

func same(a, b api.Plan) bool {
	return slices.Equal(a.Inactive, b.Inactive) && slices.Equal(a.Rows, b.Rows) && slices.Equal(a.Columns, b.Columns) && slices.Equal(a.Core, b.Core)
}

// plan is the tests' own, by the document's words, bit by bit.
func plan(m api.Matrix) api.Plan {
	var p api.Plan
	left := make([]bool, m.N)
	used := make([]bool, len(m.Rows))
	bit := func(i, c int) bool {
		b, _ := bitrow.Get(m.Rows[i], c)
		return b == 1 && !left[c] && !used[i]
	}
	for {
		counts := make([]int, m.N)
		teller, told := -1, -1
		for i := range m.Rows {
			many, last := 0, 0
			for c := range m.N {
				if bit(i, c) {
					many, last = many+1, c
					counts[c]++
				}
			}
			if many == 1 && teller < 0 {
				teller, told = i, last
			}
		}
		if teller >= 0 {
			p.Rows, p.Columns = append(p.Rows, teller), append(p.Columns, told)
			used[teller], left[told] = true, true
			continue
		}
		best := -1
		for c, n := range counts {
			if n > 0 && (best < 0 || n > counts[best]) {
				best = c
			}
		}
		if best < 0 {
			break
		}
		p.Inactive = append(p.Inactive, best)
		left[best] = true
	}
	for i := range m.Rows {
		if !used[i] {
			p.Core = append(p.Core, i)
		}
	}
	return p
}

func TestMakeExamples(t *testing.T) {
	for i, c := range []struct {
		m    api.Matrix
		want api.Plan
	}{
		{sample.Matrix(3, "110", "011", "101"), api.Plan{Inactive: []int{0}, Rows: []int{0, 1}, Columns: []int{1, 2}, Core: []int{2}}},
		{sample.Matrix(3), api.Plan{}},
		{sample.Matrix(0, "", ""), api.Plan{Core: []int{0, 1}}},
		{sample.Matrix(2, "00", "00"), api.Plan{Core: []int{0, 1}}},
		{sample.Matrix(2, "11", "01", "01"), api.Plan{Rows: []int{1, 0}, Columns: []int{1, 0}, Core: []int{2}}},
		{sample.Matrix(2, "10", "01"), api.Plan{Rows: []int{0, 1}, Columns: []int{0, 1}}},
		{sample.Matrix(3, "111", "011"), api.Plan{Inactive: []int{1}, Rows: []int{1, 0}, Columns: []int{2, 0}}},
		{sample.Matrix(4, "1111"), api.Plan{Inactive: []int{0, 1, 2}, Rows: []int{0}, Columns: []int{3}}},
		{sample.Matrix(4, "0011", "0011", "1100"), api.Plan{Inactive: []int{2, 0}, Rows: []int{0, 2}, Columns: []int{3, 1}, Core: []int{1}}},
	} {
		if p, e := inactive.Make(c.m); e != api.OK || !same(p, c.want) {
			t.Error(i, p, e)
		}
	}
}

func TestMake(t *testing.T) {
	s := sample.Seed(1)
	for range 400 {
		rows, n := s.Below(65), s.Below(65)
		m := s.Matrix(rows, n, 1+s.Below(2*n+2))
		kept := sample.Copy(m)
		p, e := inactive.Make(m)
		if e != api.OK || !same(p, plan(m)) {
			t.Fatal(m, p, e)
		}
		if !matrix.Like(m, kept) {
			t.Fatal("the matrix changed")
		}
		if !inactive.Right(m, p) {
			t.Fatal("the plan is none of its matrix", m, p)
		}
		turned, _ := matrix.Turn(m)
		for c, r := range turned.Rows {
			many, _ := bitrow.Count(r)
			if in := slices.Contains(p.Inactive, c) || slices.Contains(p.Columns, c); in != (many > 0) {
				t.Fatal(c, many, in)
			}
		}
		rank, _ := reduce.Rank(m)
		if rank < len(p.Columns) || rank > len(p.Columns)+len(p.Inactive) {
			t.Fatal(rank, p)
		}
	}
}

func TestChoose(t *testing.T) {
	for i, c := range []struct {
		m    api.Matrix
		want int
	}{
		{sample.Matrix(3, "110", "011", "101"), 0},
		{sample.Matrix(3, "010", "001"), 1},
		{sample.Matrix(3, "011", "001"), 2},
		{sample.Matrix(3, "110", "011", "010"), 1},
		{sample.Matrix(2, "00", "01"), 1},
		{sample.Matrix(1, "1"), 0},
	} {
		if n, e := inactive.Choose(c.m); e != api.OK || n != c.want {
			t.Error(i, n, e)
		}
	}
	last := api.Matrix{N: 64, Rows: []api.Row{{N: 64, Words: []uint64{1 << 63}}}}
	if n, e := inactive.Choose(last); e != api.OK || n != 63 {
		t.Error(n, e)
	}
	for i, m := range []api.Matrix{sample.Matrix(0), sample.Matrix(3), sample.Matrix(3, "000", "000"), sample.Matrix(0, "", "")} {
		if n, e := inactive.Choose(m); e != api.ErrNone || n != 0 {
			t.Error(i, n, e)
		}
	}
}

func TestWrong(t *testing.T) {
	for i, m := range sample.WrongMatrices() {
		if p, e := inactive.Make(m); e != api.ErrArg || !same(p, api.Plan{}) {
			t.Error(i, p, e)
		}
		if n, e := inactive.Choose(m); e != api.ErrArg || n != 0 {
			t.Error(i, n, e)
		}
		var core []int
		for j := range m.Rows {
			core = append(core, j)
		}
		if inactive.Right(m, api.Plan{Core: core}) || inactive.Right(m, api.Plan{}) {
			t.Error(i)
		}
	}
}

// m1 has several plans.
func m1() api.Matrix { return sample.Matrix(4, "1100", "0110", "1010", "0000") }

func TestRightPlans(t *testing.T) {
	for i, p := range []api.Plan{
		{Inactive: []int{0}, Rows: []int{0, 1}, Columns: []int{1, 2}, Core: []int{2, 3}},
		{Inactive: []int{1}, Rows: []int{1, 2}, Columns: []int{2, 0}, Core: []int{0, 3}},
		{Inactive: []int{2}, Rows: []int{2, 0}, Columns: []int{0, 1}, Core: []int{1, 3}},
		{Inactive: []int{0, 1, 2}, Core: []int{0, 1, 2, 3}},
		{Inactive: []int{3, 2, 1, 0}, Core: []int{0, 1, 2, 3}},
		{Inactive: []int{0, 1}, Rows: []int{2}, Columns: []int{2}, Core: []int{0, 1, 3}},
	} {
		if !inactive.Right(m1(), p) {
			t.Error(i)
		}
	}
	if !inactive.Right(sample.Matrix(0), api.Plan{}) || !inactive.Right(sample.Matrix(5), api.Plan{}) || !inactive.Right(sample.Matrix(5), api.Plan{Inactive: []int{4}}) {
		t.Error("no rows")
	}
}

func TestWrongPlans(t *testing.T) {
	for name, p := range map[string]api.Plan{
		"none":                          {},
		"a row is missing":              {Inactive: []int{0}, Rows: []int{0, 1}, Columns: []int{1, 2}, Core: []int{2}},
		"a row twice in Core":           {Inactive: []int{0}, Rows: []int{0, 1}, Columns: []int{1, 2}, Core: []int{2, 2}},
		"a row in both":                 {Inactive: []int{0}, Rows: []int{0, 1}, Columns: []int{1, 2}, Core: []int{1, 3}},
		"a row twice and one more":      {Inactive: []int{0}, Rows: []int{0, 1}, Columns: []int{1, 2}, Core: []int{2, 3, 3}},
		"a row that is none":            {Inactive: []int{0}, Rows: []int{0, 1}, Columns: []int{1, 2}, Core: []int{2, 4}},
		"a row below 0":                 {Inactive: []int{0, 1, 2}, Core: []int{-1, 0, 1, 2}},
		"Core does not rise":            {Inactive: []int{0}, Rows: []int{0, 1}, Columns: []int{1, 2}, Core: []int{3, 2}},
		"a column twice in Inactive":    {Inactive: []int{0, 0}, Rows: []int{0, 1}, Columns: []int{1, 2}, Core: []int{2, 3}},
		"a column in both":              {Inactive: []int{0, 1}, Rows: []int{0, 1}, Columns: []int{1, 2}, Core: []int{2, 3}},
		"a column twice in Columns":     {Inactive: []int{0, 1}, Rows: []int{1, 2}, Columns: []int{2, 2}, Core: []int{0, 3}},
		"a column that is none":         {Inactive: []int{0, 4}, Rows: []int{0, 1}, Columns: []int{1, 2}, Core: []int{2, 3}},
		"a column below 0":              {Inactive: []int{0, -1}, Rows: []int{0, 1}, Columns: []int{1, 2}, Core: []int{2, 3}},
		"a great column in Columns":     {Inactive: []int{0}, Rows: []int{0, 1}, Columns: []int{1, math.MaxInt}, Core: []int{2, 3}},
		"fewer Columns than Rows":       {Inactive: []int{0, 2}, Rows: []int{0, 1}, Columns: []int{1}, Core: []int{2, 3}},
		"more Columns than Rows":        {Inactive: []int{0}, Rows: []int{0}, Columns: []int{1, 2}, Core: []int{1, 2, 3}},
		"no bit at its column":          {Inactive: []int{0, 1}, Rows: []int{0}, Columns: []int{2}, Core: []int{1, 2, 3}},
		"no bit, of a row of bits 0":    {Inactive: []int{0, 1, 2}, Rows: []int{3}, Columns: []int{3}, Core: []int{0, 1, 2}},
		"a column that is told later":   {Inactive: []int{0}, Rows: []int{1, 0}, Columns: []int{2, 1}, Core: []int{2, 3}},
		"a column that is nowhere":      {Inactive: []int{3}, Rows: []int{0}, Columns: []int{1}, Core: []int{1, 2, 3}},
		"Core has a column more":        {Inactive: []int{0}, Rows: []int{0}, Columns: []int{1}, Core: []int{1, 2, 3}},
		"an order that tells backwards": {Inactive: []int{0}, Rows: []int{1, 0}, Columns: []int{1, 2}, Core: []int{2, 3}},
	} {
		if inactive.Right(m1(), p) {
			t.Error(name)
		}
	}
}

func TestPlansAreNotChanged(t *testing.T) {
	p := api.Plan{Inactive: []int{3, 2, 1, 0}, Core: []int{0, 1, 2, 3}}
	inactive.Right(m1(), p)
	if !same(p, api.Plan{Inactive: []int{3, 2, 1, 0}, Core: []int{0, 1, 2, 3}}) {
		t.Error(p)
	}
}
