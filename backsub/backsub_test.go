package backsub_test

import (
	"math"
	"slices"
	"strings"
	"testing"

	"downpour/api"
	"downpour/backsub"
	"downpour/bitrow"
	"downpour/matrix"
	"downpour/reduce"
	"downpour/sample"
)

func alone(n, place int) api.Row {
	r, _ := bitrow.Of(n, []int{place})
	return r
}

// want are the answers by the words of the document, from spans alone: which columns are told, and whether all can be so.
func want(m api.Matrix, n int, l []string) ([]int, bool) {
	var told []int
	for c := range m.N {
		if ok, _ := reduce.Spans(m, alone(m.N, c)); ok {
			told = append(told, c)
		}
	}
	return told, canBe(m, n, l)
}

// canBe tells whether each bit of the blocks is in the span of the matrix's columns.
func canBe(m api.Matrix, n int, l []string) bool {
	columns, _ := matrix.Turn(m)
	for bit := range 8 * n {
		var places []int
		for i, s := range l {
			if s[bit/8]>>(bit%8)&1 == 1 {
				places = append(places, i)
			}
		}
		r, _ := bitrow.Of(len(l), places)
		if ok, _ := reduce.Spans(columns, r); !ok {
			return false
		}
	}
	return true
}

func check(t *testing.T, m api.Matrix, n int, l []string) {
	t.Helper()
	kept, blocks := sample.Copy(m), slices.Clone(l)
	told, can := want(m, n, l)
	fits, e := backsub.Fits(m, n, l)
	if e != api.OK || fits != can {
		t.Fatal("Fits", m, n, l, fits, e)
	}
	columns, known, e := backsub.Known(m, n, l)
	solved, f := backsub.Solve(m, n, l)
	if !matrix.Like(m, kept) || !slices.Equal(l, blocks) {
		t.Fatal("an argument changed")
	}
	if !can {
		if e != api.ErrInconsistent || len(columns)+len(known) != 0 || f != api.ErrInconsistent || len(solved) != 0 {
			t.Fatal("can't be so", m, n, l, e, f)
		}
		return
	}
	if e != api.OK || !slices.Equal(columns, told) || len(known) != len(told) {
		t.Fatal("Known", m, n, l, columns, known, e)
	}
	if len(told) < m.N {
		if f != api.ErrNotReady || len(solved) != 0 {
			t.Fatal("Solve", m, n, l, solved, f)
		}
		return
	}
	if f != api.OK || len(solved) != m.N || !slices.Equal(solved, known) {
		t.Fatal("Solve", m, n, l, solved, f)
	}
	if sums, _ := matrix.Apply(m, n, solved); !slices.Equal(sums, l) {
		t.Fatal("the blocks do not fit", m, n, l, solved)
	}
}

func TestExamples(t *testing.T) {
	if l, e := backsub.Solve(sample.Matrix(2, "11", "01"), 1, []string{"a", "b"}); e != api.OK || !slices.Equal(l, []string{"\x03", "b"}) {
		t.Errorf("%q %d", l, e)
	}
	columns, blocks, e := backsub.Known(sample.Matrix(4, "1100", "0001", "1110"), 1, []string{"a", "b", "c"})
	if e != api.OK || !slices.Equal(columns, []int{2, 3}) || !slices.Equal(blocks, []string{"\x02", "b"}) {
		t.Errorf("%v %q %d", columns, blocks, e)
	}
	if _, e := backsub.Solve(sample.Matrix(3, "110", "011", "101"), 1, []string{"a", "b", "\x03"}); e != api.ErrNotReady {
		t.Error(e)
	}
	if _, e := backsub.Solve(sample.Matrix(3, "110", "011", "101"), 1, []string{"a", "b", "c"}); e != api.ErrInconsistent {
		t.Error("what can't be so comes ahead of what is not ready", e)
	}
	if l, e := backsub.Solve(sample.Matrix(0), 5, nil); e != api.OK || len(l) != 0 {
		t.Error("of no columns all blocks are told", l, e)
	}
	if _, e := backsub.Solve(sample.Matrix(0, ""), 1, []string{"a"}); e != api.ErrInconsistent {
		t.Error(e)
	}
	if l, e := backsub.Solve(sample.Matrix(2, "11", "01"), 0, []string{"", ""}); e != api.OK || !slices.Equal(l, []string{"", ""}) {
		t.Error("blocks of no bytes are told by the rows", l, e)
	}
	if _, e := backsub.Solve(sample.Matrix(2, "11"), 0, []string{""}); e != api.ErrNotReady {
		t.Error("blocks of no bytes are told by the rows", e)
	}
}

func TestByTheWords(t *testing.T) {
	s := sample.Seed(1)
	for range 300 {
		n, rows, columns := s.Below(3), s.Below(9), s.Below(7)
		check(t, s.Matrix(rows, columns, 1+s.Below(3)), n, s.Blocks(rows, n))
	}
	for range 300 {
		n, rows, columns := s.Below(3), s.Below(12), s.Below(7)
		m := s.Matrix(rows, columns, 1+s.Below(3))
		l, _ := matrix.Apply(m, n, s.Blocks(columns, n))
		check(t, m, n, l)
	}
	for _, p := range [][3]int{{64, 64, 64}, {64, 60, 64}, {60, 64, 3}, {64, 1, 64}, {1, 64, 0}} {
		m := s.Matrix(p[0], p[1], 2)
		l, _ := matrix.Apply(m, p[2], s.Blocks(p[1], p[2]))
		check(t, m, p[2], l)
		check(t, m, p[2], s.Blocks(p[0], p[2]))
	}
}

func TestBlocksAreTold(t *testing.T) {
	s := sample.Seed(2)
	for range 60 {
		n, columns := s.Below(65), 1+s.Below(40)
		all := s.Matrix(64, columns, 1+s.Below(6))
		source := s.Blocks(columns, n)
		sums, _ := matrix.Apply(all, n, source)
		for rows := 0; rows <= 64; rows += 8 {
			m := api.Matrix{N: columns, Rows: all.Rows[:rows]}
			if ok, e := backsub.Fits(m, n, sums[:rows]); e != api.OK || !ok {
				t.Fatal(rows, ok, e)
			}
			at, known, e := backsub.Known(m, n, sums[:rows])
			if e != api.OK {
				t.Fatal(rows, e)
			}
			for i, c := range at {
				if known[i] != source[c] {
					t.Fatal("another block is told", rows, c)
				}
			}
			rank, _ := reduce.Rank(m)
			l, e := backsub.Solve(m, n, sums[:rows])
			if rank == columns && (e != api.OK || !slices.Equal(l, source)) || rank < columns && e != api.ErrNotReady {
				t.Fatal(rows, rank, columns, e)
			}
		}
	}
}

func TestWrong(t *testing.T) {
	bad := []api.Matrix{
		{N: -1},
		{N: 65},
		{N: math.MaxInt},
		sample.Matrix(2, "11", "1"),
		{N: 1, Rows: slices.Repeat(sample.Matrix(1, "1").Rows, 65)},
		{N: 2, Rows: []api.Row{{N: 2}, {N: 2}}},
		{N: 2, Rows: []api.Row{{N: 2, Words: []uint64{4}}}},
	}
	for _, m := range bad {
		refused(t, api.ErrArg, m, 1, []string{"a", "b"})
		refused(t, api.ErrArg, m, -1, nil)
		refused(t, api.ErrArg, m, 1, []string{"ab"})
	}
	good := sample.Matrix(2, "11", "01")
	for _, w := range []struct {
		n int
		l []string
	}{
		{-1, []string{"a", "b"}},
		{65, []string{strings.Repeat("a", 65), strings.Repeat("a", 65)}},
		{math.MinInt, nil},
		{1, []string{"a", ""}},
		{1, []string{"a", "bc"}},
		{1, []string{"a"}},
		{1, []string{"a", "b", "c"}},
		{1, nil},
		{0, make([]string, 65)},
	} {
		refused(t, api.ErrSize, good, w.n, w.l)
	}
	refused(t, api.ErrSize, sample.Matrix(2), 1, []string{"a", "b"})
}

func refused(t *testing.T, why api.Errno, m api.Matrix, n int, l []string) {
	t.Helper()
	if x, e := backsub.Solve(m, n, l); e != why || len(x) != 0 {
		t.Error("Solve", x, e)
	}
	if c, x, e := backsub.Known(m, n, l); e != why || len(c) != 0 || len(x) != 0 {
		t.Error("Known", c, x, e)
	}
	if ok, e := backsub.Fits(m, n, l); e != why || ok {
		t.Error("Fits", ok, e)
	}
}
