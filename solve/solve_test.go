package solve_test

import (
	"math"
	"slices"
	"strings"
	"testing"

	"downpour/api"
	"downpour/backsub"
	"downpour/bitrow"
	"downpour/block"
	"downpour/encode"
	"downpour/equations"
	"downpour/inactive"
	"downpour/matrix"
	"downpour/neighbours"
	"downpour/peel"
	"downpour/reduce"
	"downpour/sample"
	"downpour/solve"
)

// store has the symbols of these ids, of blocks.
func store(t *testing.T, source []string, ids ...uint64) api.Store {
	t.Helper()
	s, _ := equations.New(len(source), len(source[0]), 64)
	for _, id := range ids {
		x, _ := encode.Make(source, id)
		var e api.Errno
		if s, e = equations.Add(s, x); e != api.OK {
			t.Fatal(e)
		}
	}
	return s
}

// core is the tests' own: the rows as they are are put to each row of Core, from the last column that is told on back to the first.
func core(m api.Matrix, l []string) ([]int, api.Matrix, []string) {
	p, _ := inactive.Make(m)
	columns := slices.Clone(p.Inactive)
	slices.Sort(columns)
	out := api.Matrix{N: len(columns)}
	var sums []string
	for _, i := range p.Core {
		row, sum := m.Rows[i], l[i]
		for j := len(p.Columns) - 1; j >= 0; j-- {
			if b, _ := bitrow.Get(row, p.Columns[j]); b == 1 {
				row, _ = bitrow.Xor(row, m.Rows[p.Rows[j]])
				sum, _ = block.Xor(sum, l[p.Rows[j]])
			}
		}
		var places []int
		for j, c := range columns {
			if b, _ := bitrow.Get(row, c); b == 1 {
				places = append(places, j)
			}
		}
		r, _ := bitrow.Of(len(columns), places)
		out.Rows, sums = append(out.Rows, r), append(sums, sum)
	}
	return columns, out, sums
}

func TestCoreExamples(t *testing.T) {
	columns, m, l, e := solve.Core(sample.Matrix(3, "110", "011", "101"), 1, []string{"a", "b", "d"})
	if e != api.OK || !slices.Equal(columns, []int{0}) || !matrix.Like(m, sample.Matrix(1, "0")) || !slices.Equal(l, []string{"g"}) {
		t.Errorf("%v %v %q %d", columns, m, l, e)
	}
	columns, m, l, e = solve.Core(sample.Matrix(3, "111", "110", "011", "101"), 1, []string{"a", "b", "d", "h"})
	if e != api.OK || !slices.Equal(columns, []int{0}) || !matrix.Like(m, sample.Matrix(1, "1", "1")) || !slices.Equal(l, []string{"\x05", "k"}) {
		t.Errorf("%v %v %q %d", columns, m, l, e)
	}
	columns, m, l, e = solve.Core(sample.Matrix(4, "0011", "0011", "1100"), 0, []string{"", "", ""})
	if e != api.OK || !slices.Equal(columns, []int{0, 2}) || !matrix.Like(m, sample.Matrix(2, "00")) || !slices.Equal(l, []string{""}) {
		t.Errorf("%v %v %q %d", columns, m, l, e)
	}
	columns, m, l, e = solve.Core(sample.Matrix(0, ""), 1, []string{"a"})
	if e != api.OK || len(columns) != 0 || !matrix.Like(m, sample.Matrix(0, "")) || !slices.Equal(l, []string{"a"}) {
		t.Errorf("%v %v %q %d", columns, m, l, e)
	}
	columns, m, l, e = solve.Core(sample.Matrix(5), 3, nil)
	if e != api.OK || len(columns) != 0 || m.N != 0 || len(m.Rows) != 0 || len(l) != 0 {
		t.Errorf("%v %v %q %d", columns, m, l, e)
	}
}

func TestCore(t *testing.T) {
	s := sample.Seed(1)
	for i := range 300 {
		rows, n, size := s.Below(40), s.Below(30), s.Below(4)
		if i%50 == 0 {
			rows, n, size = 64, 64, 64
		}
		m, l := s.Matrix(rows, n, 1+s.Below(n+2)), s.Blocks(rows, size)
		if i%2 == 0 {
			l, _ = matrix.Apply(m, size, s.Blocks(n, size))
		}
		kept, blocks := sample.Copy(m), slices.Clone(l)
		columns, x, sums, e := solve.Core(m, size, l)
		c1, x1, s1 := core(m, l)
		if e != api.OK || !slices.Equal(columns, c1) || !matrix.Like(x, x1) || !slices.Equal(sums, s1) {
			t.Fatal(m, columns, x, sums, e)
		}
		if !matrix.Like(m, kept) || !slices.Equal(l, blocks) {
			t.Fatal("an argument changed")
		}
		can, _ := backsub.Fits(m, size, l)
		if coreCan, e := backsub.Fits(x, size, sums); e != api.OK || can != coreCan {
			t.Fatal(can, coreCan, e)
		}
		p, _ := inactive.Make(m)
		rank, _ := reduce.Rank(m)
		if coreRank, e := reduce.Rank(x); e != api.OK || rank != coreRank+len(p.Columns) {
			t.Fatal(rank, coreRank, len(p.Columns), e)
		}
	}
}

func TestCoreWrong(t *testing.T) {
	good := sample.Matrix(2, "11", "01")
	for i, c := range []struct {
		m    api.Matrix
		n    int
		l    []string
		want api.Errno
	}{
		{api.Matrix{N: 65}, 1, nil, api.ErrArg},
		{api.Matrix{N: -1}, -1, []string{"a"}, api.ErrArg},
		{sample.Matrix(2, "11", "1"), 1, []string{"a"}, api.ErrArg},
		{api.Matrix{N: 2, Rows: []api.Row{{N: 2}}}, 1, []string{"a"}, api.ErrArg},
		{good, -1, []string{"a", "b"}, api.ErrSize},
		{good, 65, []string{strings.Repeat("a", 65), strings.Repeat("a", 65)}, api.ErrSize},
		{good, math.MaxInt, nil, api.ErrSize},
		{good, 1, []string{"a", "bc"}, api.ErrSize},
		{good, 1, []string{"a"}, api.ErrSize},
		{good, 1, []string{"a", "b", "c"}, api.ErrSize},
		{good, 1, make([]string, 65), api.ErrSize},
	} {
		columns, m, l, e := solve.Core(c.m, c.n, c.l)
		if e != c.want || len(columns) != 0 || m.N != 0 || len(m.Rows) != 0 || len(l) != 0 {
			t.Error(i, columns, m, l, e)
		}
	}
}

func TestSolve(t *testing.T) {
	s := sample.Seed(2)
	for range 60 {
		k, n := 1+s.Below(30), s.Below(65)
		source := s.Blocks(k, n)
		var ids []uint64
		for range s.Below(64) {
			ids = append(ids, uint64(len(ids)*1000+s.Below(1000)))
		}
		st := store(t, source, ids...)
		rows, _ := neighbours.Rows(k, ids)
		rank, _ := reduce.Rank(rows)
		if p, e := solve.Progress(st); e != api.OK || p != rank {
			t.Fatal(p, rank, e)
		}
		l, e := solve.Solve(st)
		if rank == k && (e != api.OK || !slices.Equal(l, source)) || rank < k && (e != api.ErrNotReady || len(l) != 0) {
			t.Fatal(k, rank, l, e)
		}
	}
	empty, _ := equations.New(3, 4, 5)
	if l, e := solve.Solve(empty); e != api.ErrNotReady || len(l) != 0 {
		t.Error(l, e)
	}
}

func TestTenBlocksInAnyOrder(t *testing.T) {
	s := sample.Seed(3)
	source := s.Blocks(10, 20)
	var ids []uint64
	for i := range uint64(64) {
		ids = append(ids, i)
	}
	for range 5 {
		for i := range ids {
			j := s.Below(64)
			ids[i], ids[j] = ids[j], ids[i]
		}
		if l, e := solve.Solve(store(t, source, ids...)); e != api.OK || !slices.Equal(l, source) {
			t.Error(l, e)
		}
	}
}

func TestSolveInconsistent(t *testing.T) {
	s := api.Store{K: 1, Size: 1, Cap: 3, Symbols: []api.Symbol{{Id: 1, Data: "a"}, {Id: 2, Data: "b"}}}
	if l, e := solve.Solve(s); e != api.ErrInconsistent || len(l) != 0 {
		t.Error(l, e)
	}
	if p, e := solve.Progress(s); e != api.OK || p != 1 {
		t.Error(p, e)
	}
	r := sample.Seed(4)
	source := r.Blocks(20, 3)
	var ids []uint64
	for i := range uint64(40) {
		ids = append(ids, i)
	}
	s = store(t, source, ids...)
	s.Symbols[39].Data = "xyz"
	m, _ := equations.Rows(s)
	sums, _ := equations.Sums(s)
	want, why := backsub.Solve(m, 3, sums)
	if l, e := solve.Solve(s); e != why || !slices.Equal(l, want) {
		t.Error(l, e, why)
	}
}

func TestCost(t *testing.T) {
	s := sample.Seed(5)
	sum := 0
	for range 200 {
		k := 1 + s.Below(40)
		source := s.Blocks(k, 2)
		var ids []uint64
		for i := range s.Below(50) {
			ids = append(ids, uint64(i*1000+s.Below(1000)))
		}
		st := store(t, source, ids...)
		rows, _ := peel.Of(st)
		p, _ := peel.Peel(k, rows)
		left := api.Matrix{N: k}
		for _, e := range p.Left {
			left.Rows = append(left.Rows, e.Row)
		}
		plan, _ := inactive.Make(left)
		if n, e := solve.Cost(st); e != api.OK || n != len(plan.Inactive) {
			t.Fatal(k, n, e)
		}
		sum += len(plan.Inactive)
	}
	if sum == 0 {
		t.Error("no store cost anything")
	}
	if n, e := solve.Cost(api.Store{K: 5, Size: 1, Cap: 1}); e != api.OK || n != 0 {
		t.Error(n, e)
	}
}

func TestStoresThatMayNotBe(t *testing.T) {
	for i, s := range []api.Store{
		{},
		{K: 65, Size: 1, Cap: 1},
		{K: 1, Size: -1, Cap: 1},
		{K: 1, Size: 1, Cap: 65},
		{K: 2, Size: 1, Cap: 1, Symbols: []api.Symbol{{Id: 1, Data: "a"}, {Id: 2, Data: "b"}}},
		{K: 2, Size: 1, Cap: 9, Symbols: []api.Symbol{{Id: 1, Data: "a"}, {Id: 1, Data: "b"}}},
		{K: 2, Size: 1, Cap: 9, Symbols: []api.Symbol{{Id: 1, Data: "ab"}}},
	} {
		if l, e := solve.Solve(s); e != api.ErrArg || len(l) != 0 {
			t.Error(i, l, e)
		}
		if n, e := solve.Progress(s); e != api.ErrArg || n != 0 {
			t.Error(i, n, e)
		}
		if n, e := solve.Cost(s); e != api.ErrArg || n != 0 {
			t.Error(i, n, e)
		}
	}
}
