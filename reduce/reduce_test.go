package reduce_test

import (
	"math"
	"slices"
	"testing"

	"downpour/api"
	"downpour/bitrow"
	"downpour/matrix"
	"downpour/reduce"
)

// seed makes the tests' inputs the same at every run.
type seed uint64

func (s *seed) below(n int) int {
	*s = *s*6364136223846793005 + 1442695040888963407
	return int(uint64(*s) >> 33 % uint64(n))
}

// matrix has about one bit 1 of so many.
func (s *seed) matrix(rows, n, of int) api.Matrix {
	m := api.Matrix{N: n}
	for range rows {
		var places []int
		for i := range n {
			if s.below(of) == 0 {
				places = append(places, i)
			}
		}
		r, _ := bitrow.Of(n, places)
		m.Rows = append(m.Rows, r)
	}
	return m
}

// of is the matrix whose rows' bits are written out.
func of(n int, rows ...string) api.Matrix {
	m := api.Matrix{N: n}
	for _, s := range rows {
		m.Rows = append(m.Rows, rowOf(s))
	}
	return m
}

func rowOf(s string) api.Row {
	var places []int
	for i := range len(s) {
		if s[i] == '1' {
			places = append(places, i)
		}
	}
	r, _ := bitrow.Of(len(s), places)
	return r
}

func copyOf(m api.Matrix) api.Matrix {
	m.Rows = slices.Clone(m.Rows)
	for i := range m.Rows {
		m.Rows[i].Words = slices.Clone(m.Rows[i].Words)
	}
	return m
}

// bad may not be, each for one fault alone.
func bad() []api.Matrix {
	return []api.Matrix{
		{N: -1},
		{N: 65},
		{N: math.MinInt},
		{N: math.MaxInt},
		of(2, "11", "1"),
		of(2, "110"),
		{N: 2, Rows: slices.Repeat(of(2, "10").Rows, 65)},
		{N: 2, Rows: []api.Row{{N: 2}}},
		{N: 2, Rows: []api.Row{{N: 2, Words: []uint64{4}}}},
	}
}

// spanned are the rows, as words, that a matrix of few rows spans.
func spanned(m api.Matrix) map[uint64]bool {
	all := map[uint64]bool{0: true}
	for _, r := range m.Rows {
		more := map[uint64]bool{}
		for w := range all {
			more[w], more[w^word(r)] = true, true
		}
		all = more
	}
	return all
}

func word(r api.Row) uint64 {
	if len(r.Words) == 0 {
		return 0
	}
	return r.Words[0]
}

func checkReduced(t *testing.T, m api.Matrix, places []int) {
	t.Helper()
	if !matrix.Right(m) || len(places) != len(m.Rows) {
		t.Fatal(m, places)
	}
	for i, r := range m.Rows {
		if f, e := bitrow.First(r); e != api.OK || f != places[i] {
			t.Fatal("not its place", i, f, places)
		}
		if i > 0 && places[i] <= places[i-1] {
			t.Fatal("places do not rise", places)
		}
		for j, o := range m.Rows {
			if b, _ := bitrow.Get(o, places[i]); (b == 1) != (i == j) {
				t.Fatal("another row has a row's place", i, j)
			}
		}
	}
}

func TestEchelonExamples(t *testing.T) {
	for i, c := range []struct {
		m, want api.Matrix
		places  []int
	}{
		{of(3, "110", "011", "101"), of(3, "101", "011"), []int{0, 1}},
		{of(3), of(3), nil},
		{of(0), of(0), nil},
		{of(0, "", ""), of(0), nil},
		{of(3, "000", "000"), of(3), nil},
		{of(3, "001", "010", "100"), of(3, "100", "010", "001"), []int{0, 1, 2}},
		{of(4, "0011", "0001"), of(4, "0010", "0001"), []int{2, 3}},
		{of(4, "0110", "0110", "1111"), of(4, "1001", "0110"), []int{0, 1}},
		{of(3, "111"), of(3, "111"), []int{0}},
	} {
		m, places, e := reduce.Echelon(c.m)
		if e != api.OK || !matrix.Like(m, c.want) || !slices.Equal(places, c.places) {
			t.Error(i, m, places, e)
		}
		if n, e := reduce.Rank(c.m); e != api.OK || n != len(c.places) {
			t.Error(i, n, e)
		}
	}
}

func TestEchelonSpansTheSame(t *testing.T) {
	s := seed(1)
	for range 200 {
		n := s.below(9)
		m := s.matrix(s.below(9), n, 1+s.below(4))
		kept := copyOf(m)
		x, places, e := reduce.Echelon(m)
		if e != api.OK || x.N != n || !matrix.Like(m, kept) {
			t.Fatal(m, x, e)
		}
		checkReduced(t, x, places)
		a, b := spanned(m), spanned(x)
		if len(a) != len(b) || len(b) != 1<<len(x.Rows) {
			t.Fatal(m, x)
		}
		for w := range a {
			if !b[w] {
				t.Fatal(m, x, w)
			}
		}
	}
}

func TestEchelonGreat(t *testing.T) {
	s := seed(2)
	for _, p := range [][2]int{{64, 64}, {64, 63}, {63, 64}, {1, 64}, {64, 1}, {64, 20}, {20, 64}} {
		for _, of := range []int{2, 5, 20} {
			m := s.matrix(p[0], p[1], of)
			kept := copyOf(m)
			x, places, e := reduce.Echelon(m)
			if e != api.OK || x.N != p[1] || !matrix.Like(m, kept) {
				t.Fatal(p, e)
			}
			checkReduced(t, x, places)
			for _, r := range m.Rows {
				if ok, e := reduce.Spans(x, r); e != api.OK || !ok {
					t.Fatal(p, e)
				}
			}
			for _, r := range x.Rows {
				if ok, e := reduce.Spans(m, r); e != api.OK || !ok {
					t.Fatal(p, e)
				}
			}
			if again, _, _ := reduce.Echelon(x); !matrix.Like(again, x) {
				t.Fatal("a reduced matrix is reduced as it is", p)
			}
		}
	}
}

func TestRank(t *testing.T) {
	for _, n := range []int{0, 1, 2, 63, 64} {
		m, _ := matrix.One(n)
		if r, e := reduce.Rank(m); e != api.OK || r != n {
			t.Error(n, r, e)
		}
	}
	s := seed(3)
	for range 100 {
		p, q := s.below(65), s.below(65)
		m := s.matrix(p, q, 1+s.below(30))
		rank, e := reduce.Rank(m)
		turned, _ := matrix.Turn(m)
		if r, f := reduce.Rank(turned); e != api.OK || f != api.OK || r != rank || rank > min(p, q) || rank < 0 {
			t.Fatal(p, q, rank, r, e, f)
		}
	}
}

func TestSpans(t *testing.T) {
	s := seed(4)
	for range 100 {
		n := s.below(8)
		m := s.matrix(s.below(7), n, 2)
		all := spanned(m)
		for w := range uint64(1) << n {
			r, _ := bitrow.New(n)
			if n > 0 {
				r.Words[0] = w
			}
			if ok, e := reduce.Spans(m, r); e != api.OK || ok != all[w] {
				t.Fatal(m, w, ok, e)
			}
			if n > 0 && r.Words[0] != w {
				t.Fatal("the row changed")
			}
		}
	}
	if ok, e := reduce.Spans(of(3), rowOf("000")); e != api.OK || !ok {
		t.Error("no rows span bits 0", ok, e)
	}
	if ok, e := reduce.Spans(of(3), rowOf("001")); e != api.OK || ok {
		t.Error(ok, e)
	}
	if ok, e := reduce.Spans(of(0), rowOf("")); e != api.OK || !ok {
		t.Error(ok, e)
	}
}

func TestOneRowMore(t *testing.T) {
	s := seed(5)
	for range 100 {
		n := 1 + s.below(64)
		m := s.matrix(s.below(64), n, 1+s.below(20))
		r := s.matrix(1, n, 1+s.below(20)).Rows[0]
		was, _ := reduce.Rank(m)
		spans, _ := reduce.Spans(m, r)
		more := api.Matrix{N: n, Rows: append(slices.Clone(m.Rows), r)}
		is, e := reduce.Rank(more)
		if e != api.OK || (is == was) != spans || is != was && is != was+1 {
			t.Fatal(n, was, is, spans, e)
		}
		for _, r := range more.Rows {
			if ok, e := reduce.Spans(more, r); e != api.OK || !ok {
				t.Fatal(ok, e)
			}
		}
	}
}

func TestWrong(t *testing.T) {
	for i, m := range bad() {
		if x, places, e := reduce.Echelon(m); e != api.ErrArg || x.N != 0 || len(x.Rows) != 0 || len(places) != 0 {
			t.Error(i, x, places, e)
		}
		if n, e := reduce.Rank(m); e != api.ErrArg || n != 0 {
			t.Error(i, n, e)
		}
		for _, r := range []api.Row{rowOf("00"), rowOf("000"), {}, {N: 2}} {
			if ok, e := reduce.Spans(m, r); e != api.ErrArg || ok {
				t.Error(i, ok, e)
			}
		}
	}
	good := of(2, "10", "11")
	for i, r := range []api.Row{{N: 2}, {N: 2, Words: []uint64{4}}, {N: -1}, {N: 3}, {N: 3, Words: []uint64{8}}, {N: 513, Words: make([]uint64, 9)}} {
		if ok, e := reduce.Spans(good, r); e != api.ErrArg || ok {
			t.Error(i, ok, e)
		}
	}
	for i, r := range []api.Row{{}, rowOf("0"), rowOf("000"), {N: 512, Words: make([]uint64, 8)}} {
		if ok, e := reduce.Spans(good, r); e != api.ErrSize || ok {
			t.Error(i, ok, e)
		}
	}
}
