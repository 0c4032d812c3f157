package reduce_test

import (
	"slices"
	"testing"

	"downpour/api"
	"downpour/bitrow"
	"downpour/matrix"
	"downpour/reduce"
	"downpour/sample"
)

// spanned are the rows, as words, that a matrix of few rows spans.
func spanned(m api.Matrix) map[uint64]bool {
	all := map[uint64]bool{0: true}
	for _, r := range m.Rows {
		more := map[uint64]bool{}
		for w := range all {
			more[w], more[w^word(r)] = true, true
		}
		all = more
	}
	return all
}

func word(r api.Row) uint64 {
	if len(r.Words) == 0 {
		return 0
	}
	return r.Words[0]
}

func checkReduced(t *testing.T, m api.Matrix, places []int) {
	t.Helper()
	if !matrix.Right(m) || len(places) != len(m.Rows) {
		t.Fatal(m, places)
	}
	for i, r := range m.Rows {
		if f, e := bitrow.First(r); e != api.OK || f != places[i] {
			t.Fatal("not its place", i, f, places)
		}
		if i > 0 && places[i] <= places[i-1] {
			t.Fatal("places do not rise", places)
		}
		for j, o := range m.Rows {
			if b, _ := bitrow.Get(o, places[i]); (b == 1) != (i == j) {
				t.Fatal("another row has a row's place", i, j)
			}
		}
	}
}

func TestEchelonExamples(t *testing.T) {
	for i, c := range []struct {
		m, want api.Matrix
		places  []int
	}{
		{sample.Matrix(3, "110", "011", "101"), sample.Matrix(3, "101", "011"), []int{0, 1}},
		{sample.Matrix(3), sample.Matrix(3), nil},
		{sample.Matrix(0), sample.Matrix(0), nil},
		{sample.Matrix(0, "", ""), sample.Matrix(0), nil},
		{sample.Matrix(3, "000", "000"), sample.Matrix(3), nil},
		{sample.Matrix(3, "001", "010", "100"), sample.Matrix(3, "100", "010", "001"), []int{0, 1, 2}},
		{sample.Matrix(4, "0011", "0001"), sample.Matrix(4, "0010", "0001"), []int{2, 3}},
		{sample.Matrix(4, "0110", "0110", "1111"), sample.Matrix(4, "1001", "0110"), []int{0, 1}},
		{sample.Matrix(3, "111"), sample.Matrix(3, "111"), []int{0}},
	} {
		m, places, e := reduce.Echelon(c.m)
		if e != api.OK || !matrix.Like(m, c.want) || !slices.Equal(places, c.places) {
			t.Error(i, m, places, e)
		}
		if n, e := reduce.Rank(c.m); e != api.OK || n != len(c.places) {
			t.Error(i, n, e)
		}
	}
}

func TestEchelonSpansTheSame(t *testing.T) {
	s := sample.Seed(1)
	for range 200 {
		n := s.Below(9)
		m := s.Matrix(s.Below(9), n, 1+s.Below(4))
		kept := sample.Copy(m)
		x, places, e := reduce.Echelon(m)
		if e != api.OK || x.N != n || !matrix.Like(m, kept) {
			t.Fatal(m, x, e)
		}
		checkReduced(t, x, places)
		a, b := spanned(m), spanned(x)
		if len(a) != len(b) || len(b) != 1<<len(x.Rows) {
			t.Fatal(m, x)
		}
		for w := range a {
			if !b[w] {
				t.Fatal(m, x, w)
			}
		}
	}
}

func TestEchelonGreat(t *testing.T) {
	s := sample.Seed(2)
	for _, p := range [][2]int{{64, 64}, {64, 63}, {63, 64}, {1, 64}, {64, 1}, {64, 20}, {20, 64}} {
		for _, of := range []int{2, 5, 20} {
			m := s.Matrix(p[0], p[1], of)
			kept := sample.Copy(m)
			x, places, e := reduce.Echelon(m)
			if e != api.OK || x.N != p[1] || !matrix.Like(m, kept) {
				t.Fatal(p, e)
			}
			checkReduced(t, x, places)
			for _, r := range m.Rows {
				if ok, e := reduce.Spans(x, r); e != api.OK || !ok {
					t.Fatal(p, e)
				}
			}
			for _, r := range x.Rows {
				if ok, e := reduce.Spans(m, r); e != api.OK || !ok {
					t.Fatal(p, e)
				}
			}
			if again, _, _ := reduce.Echelon(x); !matrix.Like(again, x) {
				t.Fatal("a reduced matrix is reduced as it is", p)
			}
		}
	}
}

func TestRank(t *testing.T) {
	for _, n := range []int{0, 1, 2, 63, 64} {
		m, _ := matrix.One(n)
		if r, e := reduce.Rank(m); e != api.OK || r != n {
			t.Error(n, r, e)
		}
	}
	s := sample.Seed(3)
	for range 100 {
		p, q := s.Below(65), s.Below(65)
		m := s.Matrix(p, q, 1+s.Below(30))
		rank, e := reduce.Rank(m)
		turned, _ := matrix.Turn(m)
		if r, f := reduce.Rank(turned); e != api.OK || f != api.OK || r != rank || rank > min(p, q) || rank < 0 {
			t.Fatal(p, q, rank, r, e, f)
		}
	}
}

func TestSpans(t *testing.T) {
	s := sample.Seed(4)
	for range 100 {
		n := s.Below(8)
		m := s.Matrix(s.Below(7), n, 2)
		all := spanned(m)
		for w := range uint64(1) << n {
			r, _ := bitrow.New(n)
			if n > 0 {
				r.Words[0] = w
			}
			if ok, e := reduce.Spans(m, r); e != api.OK || ok != all[w] {
				t.Fatal(m, w, ok, e)
			}
			if n > 0 && r.Words[0] != w {
				t.Fatal("the row changed")
			}
		}
	}
	if ok, e := reduce.Spans(sample.Matrix(3), sample.Row("000")); e != api.OK || !ok {
		t.Error("no rows span bits 0", ok, e)
	}
	if ok, e := reduce.Spans(sample.Matrix(3), sample.Row("001")); e != api.OK || ok {
		t.Error(ok, e)
	}
	if ok, e := reduce.Spans(sample.Matrix(0), sample.Row("")); e != api.OK || !ok {
		t.Error(ok, e)
	}
}

func TestOneRowMore(t *testing.T) {
	s := sample.Seed(5)
	for range 100 {
		n := 1 + s.Below(64)
		m := s.Matrix(s.Below(64), n, 1+s.Below(20))
		r := s.Matrix(1, n, 1+s.Below(20)).Rows[0]
		was, _ := reduce.Rank(m)
		spans, _ := reduce.Spans(m, r)
		more := api.Matrix{N: n, Rows: append(slices.Clone(m.Rows), r)}
		is, e := reduce.Rank(more)
		if e != api.OK || (is == was) != spans || is != was && is != was+1 {
			t.Fatal(n, was, is, spans, e)
		}
		for _, r := range more.Rows {
			if ok, e := reduce.Spans(more, r); e != api.OK || !ok {
				t.Fatal(ok, e)
			}
		}
	}
}

func TestWrong(t *testing.T) {
	for i, m := range sample.WrongMatrices() {
		if x, places, e := reduce.Echelon(m); e != api.ErrArg || x.N != 0 || len(x.Rows) != 0 || len(places) != 0 {
			t.Error(i, x, places, e)
		}
		if n, e := reduce.Rank(m); e != api.ErrArg || n != 0 {
			t.Error(i, n, e)
		}
		for _, r := range []api.Row{sample.Row("00"), sample.Row("000"), {}, {N: 2}} {
			if ok, e := reduce.Spans(m, r); e != api.ErrArg || ok {
				t.Error(i, ok, e)
			}
		}
	}
	good := sample.Matrix(2, "10", "11")
	for i, r := range []api.Row{{N: 2}, {N: 2, Words: []uint64{4}}, {N: -1}, {N: 3}, {N: 3, Words: []uint64{8}}, {N: 513, Words: make([]uint64, 9)}} {
		if ok, e := reduce.Spans(good, r); e != api.ErrArg || ok {
			t.Error(i, ok, e)
		}
	}
	for i, r := range []api.Row{{}, sample.Row("0"), sample.Row("000"), {N: 512, Words: make([]uint64, 8)}} {
		if ok, e := reduce.Spans(good, r); e != api.ErrSize || ok {
			t.Error(i, ok, e)
		}
	}
}
