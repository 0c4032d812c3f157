package matrix_test

import (
	"math"
	"slices"
	"strings"
	"testing"

	"downpour/api"
	"downpour/bitrow"
	"downpour/block"
	"downpour/matrix"
	"downpour/sample"
)

func bit(m api.Matrix, row, column int) int {
	b, _ := bitrow.Get(m.Rows[row], column)
	return b
}

func same(a, b api.Matrix) bool {
	return a.N == b.N && slices.EqualFunc(a.Rows, b.Rows, bitrow.Like)
}

func isZero(m api.Matrix) bool { return m.N == 0 && len(m.Rows) == 0 }

var shapes = [][2]int{{0, 0}, {0, 3}, {3, 0}, {1, 1}, {2, 3}, {3, 2}, {5, 5}, {0, 64}, {64, 0}, {64, 64}, {63, 64}, {64, 1}, {1, 64}}

func TestRight(t *testing.T) {
	s := sample.Seed(1)
	for _, p := range shapes {
		if m := s.Matrix(p[0], p[1], 2); !matrix.Right(m) {
			t.Error(p)
		}
	}
	for i, m := range sample.WrongMatrices() {
		if matrix.Right(m) {
			t.Error(i)
		}
	}
}

func TestLike(t *testing.T) {
	s := sample.Seed(2)
	for _, p := range shapes {
		m := s.Matrix(p[0], p[1], 2)
		if !matrix.Like(m, sample.Copy(m)) {
			t.Error(p)
		}
	}
	if !matrix.Like(api.Matrix{N: 3}, api.Matrix{N: 3, Rows: []api.Row{}}) {
		t.Error("an empty list counts as nil")
	}
	for i, m := range sample.WrongMatrices() {
		if !matrix.Like(m, sample.Copy(m)) {
			t.Error(i)
		}
	}
	m := sample.Matrix(2, "10", "11")
	for i, o := range []api.Matrix{sample.Matrix(3, "10", "11"), sample.Matrix(2, "10"), sample.Matrix(2, "10", "10"), sample.Matrix(2, "11", "10"), sample.Matrix(2, "10", "11", "00"), sample.Matrix(2, "10", "110"), {N: 2}, {}} {
		if matrix.Like(m, o) || matrix.Like(o, m) {
			t.Error(i)
		}
	}
}

func TestOne(t *testing.T) {
	for _, n := range []int{0, 1, 2, 3, 63, 64} {
		m, e := matrix.One(n)
		if e != api.OK || m.N != n || len(m.Rows) != n || !matrix.Right(m) {
			t.Fatal(n, m, e)
		}
		for i := range n {
			for j := range n {
				if (bit(m, i, j) == 1) != (i == j) {
					t.Fatal(n, i, j)
				}
			}
		}
	}
	for _, n := range []int{-1, 65, 512, math.MinInt, math.MaxInt} {
		if m, e := matrix.One(n); e != api.ErrSize || !isZero(m) {
			t.Error(n, m, e)
		}
	}
}

func TestTurn(t *testing.T) {
	if m, e := matrix.Turn(sample.Matrix(2, "10", "11", "01")); e != api.OK || !same(m, sample.Matrix(3, "110", "011")) {
		t.Error(m, e)
	}
	s := sample.Seed(3)
	for _, p := range shapes {
		m := s.Matrix(p[0], p[1], 2)
		kept := sample.Copy(m)
		turned, e := matrix.Turn(m)
		if e != api.OK || turned.N != p[0] || len(turned.Rows) != p[1] || !matrix.Right(turned) {
			t.Fatal(p, turned, e)
		}
		for i := range p[0] {
			for j := range p[1] {
				if bit(m, i, j) != bit(turned, j, i) {
					t.Fatal(p, i, j)
				}
			}
		}
		if back, _ := matrix.Turn(turned); !same(back, m) || !same(m, kept) {
			t.Error(p)
		}
	}
	for i, m := range sample.WrongMatrices() {
		if x, e := matrix.Turn(m); e != api.ErrArg || !isZero(x) {
			t.Error(i, x, e)
		}
	}
}

func TestMul(t *testing.T) {
	if m, e := matrix.Mul(sample.Matrix(2, "11", "01", "00"), sample.Matrix(3, "110", "011")); e != api.OK || !same(m, sample.Matrix(3, "101", "011", "000")) {
		t.Error(m, e)
	}
	s := sample.Seed(4)
	for _, p := range [][3]int{{0, 0, 0}, {2, 0, 3}, {0, 3, 2}, {3, 2, 0}, {1, 1, 1}, {4, 5, 6}, {6, 5, 4}, {64, 64, 64}, {64, 1, 64}, {1, 64, 1}} {
		a, b := s.Matrix(p[0], p[1], 2), s.Matrix(p[1], p[2], 2)
		keptA, keptB := sample.Copy(a), sample.Copy(b)
		m, e := matrix.Mul(a, b)
		if e != api.OK || m.N != p[2] || len(m.Rows) != p[0] || !matrix.Right(m) {
			t.Fatal(p, m, e)
		}
		for i := range p[0] {
			for j := range p[2] {
				want := 0
				for k := range p[1] {
					want ^= bit(a, i, k) & bit(b, k, j)
				}
				if bit(m, i, j) != want {
					t.Fatal(p, i, j)
				}
			}
		}
		if !same(a, keptA) || !same(b, keptB) {
			t.Error("an argument changed", p)
		}
	}
}

func TestMulWrong(t *testing.T) {
	good := sample.Matrix(2, "11")
	for i, m := range sample.WrongMatrices() {
		for _, p := range [][2]api.Matrix{{m, good}, {good, m}, {m, m}} {
			if x, e := matrix.Mul(p[0], p[1]); e != api.ErrArg || !isZero(x) {
				t.Error(i, x, e)
			}
		}
	}
	for _, p := range [][2]api.Matrix{{good, good}, {sample.Matrix(1, "1"), sample.Matrix(1)}, {sample.Matrix(0), sample.Matrix(1, "1")}, {sample.Matrix(2), sample.Matrix(2, "11", "00", "01")}} {
		if x, e := matrix.Mul(p[0], p[1]); e != api.ErrSize || !isZero(x) {
			t.Error(p, x, e)
		}
	}
}

func TestApply(t *testing.T) {
	s := sample.Seed(5)
	for _, p := range shapes {
		for _, n := range []int{0, 1, 64} {
			m, l := s.Matrix(p[0], p[1], 2), s.Blocks(p[1], n)
			kept, blocks := sample.Copy(m), slices.Clone(l)
			got, e := matrix.Apply(m, n, l)
			if e != api.OK || len(got) != p[0] {
				t.Fatal(p, n, got, e)
			}
			for i, r := range m.Rows {
				if want, _ := block.Pick(n, l, r); got[i] != want {
					t.Fatal(p, n, i)
				}
			}
			if !same(m, kept) || !slices.Equal(l, blocks) {
				t.Error("an argument changed", p, n)
			}
		}
	}
	if l, e := matrix.Apply(sample.Matrix(2, "11", "00", "01"), 1, []string{"a", "b"}); e != api.OK || !slices.Equal(l, []string{"\x03", "\x00", "b"}) {
		t.Errorf("%q %d", l, e)
	}
}

func TestApplyWrong(t *testing.T) {
	sizes := []struct {
		n int
		l []string
	}{
		{-1, []string{"a", "b"}},
		{65, []string{strings.Repeat("a", 65), strings.Repeat("a", 65)}},
		{1, []string{"a", ""}},
		{1, []string{"a"}},
		{1, []string{"a", "b", "c"}},
		{1, nil},
		{1, slices.Repeat([]string{"a"}, 65)},
		{math.MaxInt, nil},
	}
	for i, w := range sizes {
		if x, e := matrix.Apply(sample.Matrix(2, "11"), w.n, w.l); e != api.ErrSize || len(x) != 0 {
			t.Error(i, x, e)
		}
		if x, e := matrix.Apply(sample.Matrix(2), w.n, w.l); e != api.ErrSize || len(x) != 0 {
			t.Error(i, x, e)
		}
		for j, m := range sample.WrongMatrices() {
			if x, e := matrix.Apply(m, w.n, w.l); e != api.ErrArg || len(x) != 0 {
				t.Error(i, j, x, e)
			}
		}
	}
	for i, m := range sample.WrongMatrices() {
		if x, e := matrix.Apply(m, 1, []string{"a", "b"}); e != api.ErrArg || len(x) != 0 {
			t.Error(i, x, e)
		}
	}
}

func TestLaws(t *testing.T) {
	s := sample.Seed(6)
	for range 30 {
		p, q, r, n := s.Below(20), s.Below(20), s.Below(20), s.Below(65)
		a, b, l := s.Matrix(p, q, 2), s.Matrix(q, r, 2), s.Blocks(r, n)
		ab, _ := matrix.Mul(a, b)
		turned, _ := matrix.Turn(ab)
		ta, _ := matrix.Turn(a)
		tb, _ := matrix.Turn(b)
		if m, e := matrix.Mul(tb, ta); e != api.OK || !same(m, turned) {
			t.Fatal(p, q, r)
		}
		behind, _ := matrix.Apply(b, n, l)
		behind, _ = matrix.Apply(a, n, behind)
		if at, e := matrix.Apply(ab, n, l); e != api.OK || !slices.Equal(at, behind) {
			t.Fatal(p, q, r)
		}
		left, _ := matrix.One(p)
		right, _ := matrix.One(q)
		if m, e := matrix.Mul(left, a); e != api.OK || !same(m, a) {
			t.Fatal(p, q)
		}
		if m, e := matrix.Mul(a, right); e != api.OK || !same(m, a) {
			t.Fatal(p, q)
		}
		one, _ := matrix.One(r)
		if x, e := matrix.Apply(one, n, l); e != api.OK || !slices.Equal(x, l) {
			t.Fatal(r, n)
		}
	}
}
