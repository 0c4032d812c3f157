// Package sample makes inputs that the tests of several layers share; they are the same at every run.
package sample

import (
	"math"
	"slices"

	"downpour/api"
)

const wordBits = 64

// Seed is where numbers begin.
type Seed uint64

// Below is the next number, of 0 to n-1.
func (s *Seed) Below(n int) int {
	*s = *s*6364136223846793005 + 1442695040888963407
	return int(uint64(*s) >> 33 % uint64(n))
}

// Text has n bytes.
func (s *Seed) Text(n int) string {
	b := make([]byte, n)
	for i := range b {
		b[i] = byte(s.Below(256))
	}
	return string(b)
}

// Blocks are so many, of n bytes each.
func (s *Seed) Blocks(many, n int) []string {
	var l []string
	for range many {
		l = append(l, s.Text(n))
	}
	return l
}

// Places are about one of so many of those below n, rising.
func (s *Seed) Places(n, of int) []int {
	var l []int
	for i := range n {
		if s.Below(of) == 0 {
			l = append(l, i)
		}
	}
	return l
}

// Row has n bits, about one of so many of which is 1.
func (s *Seed) Row(n, of int) api.Row { return rowOf(n, s.Places(n, of)) }

// Matrix has so many rows, each as Row.
func (s *Seed) Matrix(rows, n, of int) api.Matrix {
	m := api.Matrix{N: n}
	for range rows {
		m.Rows = append(m.Rows, s.Row(n, of))
	}
	return m
}

// Row is the one whose bits are written out, the first one first.
func Row(bits string) api.Row {
	var places []int
	for i := range len(bits) {
		if bits[i] == '1' {
			places = append(places, i)
		}
	}
	return rowOf(len(bits), places)
}

// Matrix is the one whose rows' bits are written out.
func Matrix(n int, rows ...string) api.Matrix {
	m := api.Matrix{N: n}
	for _, bits := range rows {
		m.Rows = append(m.Rows, Row(bits))
	}
	return m
}

// WrongMatrices may not be, each for one fault alone.
func WrongMatrices() []api.Matrix {
	return []api.Matrix{
		{N: -1},
		{N: 65},
		{N: 65, Rows: []api.Row{{N: 65, Words: []uint64{0, 0}}}},
		{N: math.MinInt},
		{N: math.MaxInt},
		Matrix(2, "11", "10", "1"),
		Matrix(2, "110"),
		Matrix(0, "1"),
		{N: 0, Rows: make([]api.Row, 65)},
		{N: 2, Rows: slices.Repeat([]api.Row{Row("10")}, 65)},
		{N: 2, Rows: []api.Row{{N: 2}}},
		{N: 2, Rows: []api.Row{{N: 2, Words: []uint64{4}}}},
		{N: 2, Rows: []api.Row{{N: 2, Words: []uint64{0, 0}}}},
		{N: 64, Rows: []api.Row{{N: 64, Words: []uint64{0}}, {N: 64}}},
	}
}

// Copy shares nothing with the matrix.
func Copy(m api.Matrix) api.Matrix {
	m.Rows = slices.Clone(m.Rows)
	for i := range m.Rows {
		m.Rows[i].Words = slices.Clone(m.Rows[i].Words)
	}
	return m
}

// rowOf is made without the layer that makes rows, so that tests of that layer do not hang on it.
func rowOf(n int, places []int) api.Row {
	words := make([]uint64, (n+wordBits-1)/wordBits)
	for _, p := range places {
		words[p/wordBits] |= 1 << (p % wordBits)
	}
	return api.Row{N: n, Words: words}
}
