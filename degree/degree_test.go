package degree_test

import (
	"math"
	"math/big"
	"slices"
	"testing"

	"downpour/api"
	"downpour/degree"
)

// weights is the tests' own, by the document's words, in numbers without a bound.
func weights(k int) []uint64 {
	t := 1
	for (t+1)*(t+1) <= k {
		t++
	}
	digits := 0
	for x := t; x > 0; x /= 2 {
		digits++
	}
	p := k / t
	part := func(over, under int) uint64 {
		f := new(big.Int).Lsh(big.NewInt(int64(over)), 32)
		return f.Div(f, big.NewInt(int64(under))).Uint64()
	}
	var l []uint64
	for d := 1; d <= k; d++ {
		w := part(1, k)
		if d > 1 {
			w = part(1, d*(d-1))
		}
		if d < p {
			w += part(t, d*k)
		}
		if d == p {
			w += part(t*digits, k)
		}
		l = append(l, w)
	}
	return l
}

func TestRoot(t *testing.T) {
	for k := range 5000 {
		r, e := degree.Root(k)
		if e != api.OK || r*r > k || (r+1)*(r+1) <= k {
			t.Fatal(k, r, e)
		}
	}
	for _, want := range []int{100, 255, 256, 32767, 32768, 46339, 46340} {
		for _, c := range [][2]int{{want * want, want}, {want*want - 1, want - 1}, {want*want + 2*want, want}} {
			if c[0] > math.MaxInt32 {
				continue
			}
			if r, e := degree.Root(c[0]); e != api.OK || r != c[1] {
				t.Error(c, r, e)
			}
		}
	}
	if r, e := degree.Root(math.MaxInt32); e != api.OK || r != 46340 {
		t.Error(r, e)
	}
	for _, k := range []int{-1, -4, math.MaxInt32 + 1, math.MaxUint32, math.MinInt, math.MaxInt} {
		if r, e := degree.Root(k); e != api.ErrSize || r != 0 {
			t.Error(k, r, e)
		}
	}
}

func TestWeights(t *testing.T) {
	if l, e := degree.Weights(1); e != api.OK || !slices.Equal(l, []uint64{1 << 33}) {
		t.Error(l, e)
	}
	if l, e := degree.Weights(2); e != api.OK || !slices.Equal(l, []uint64{1<<31 + 1<<31, 1<<31 + 1<<31}) {
		t.Error(l, e)
	}
	for k := 1; k <= 64; k++ {
		want := weights(k)
		if l, e := degree.Weights(k); e != api.OK || !slices.Equal(l, want) {
			t.Error(k, l, e)
		}
		for _, w := range want {
			if w == 0 {
				t.Error("a degree without a weight", k)
			}
		}
		for i := range want[1:] {
			want[i+1] += want[i]
		}
		if l, e := degree.Table(k); e != api.OK || !slices.Equal(l, want) {
			t.Error(k, l, e)
		}
	}
}

func TestWrongK(t *testing.T) {
	for _, k := range []int{0, -1, 65, 512, math.MinInt, math.MaxInt} {
		if l, e := degree.Weights(k); e != api.ErrSize || len(l) != 0 {
			t.Error(k, l, e)
		}
		if l, e := degree.Table(k); e != api.ErrSize || len(l) != 0 {
			t.Error(k, l, e)
		}
	}
}

// pick is the tests' own, sum by sum.
func pick(table []uint64, n uint64) int {
	n %= table[len(table)-1]
	for i, sum := range table {
		if sum > n {
			return i + 1
		}
	}
	return 0
}

func tables() [][]uint64 {
	l := [][]uint64{{1}, {7}, {1, 2}, {1, 3, 4}, {5, 6, 20, 21, 300}, {math.MaxUint64}, {1, math.MaxUint64}, {math.MaxUint64 - 1, math.MaxUint64}}
	for k := 1; k <= 64; k++ {
		table, _ := degree.Table(k)
		l = append(l, table)
	}
	return l
}

func TestPick(t *testing.T) {
	for _, table := range tables() {
		kept := slices.Clone(table)
		for i, sum := range table {
			if d, e := degree.Pick(table, sum-1); e != api.OK || d != i+1 {
				t.Error(table, sum-1, d, e)
			}
			if d, e := degree.Pick(table, sum); i < len(table)-1 && (e != api.OK || d != i+2) {
				t.Error(table, sum, d, e)
			}
		}
		last := table[len(table)-1]
		for _, n := range []uint64{0, 1, last, last + 1, 2*last - 1, 1 << 32, 1 << 63, math.MaxUint64, 0x123456789abcdef} {
			if d, e := degree.Pick(table, n); e != api.OK || d != pick(table, n) || d < 1 || d > len(table) {
				t.Error(table, n, d, e)
			}
		}
		if !slices.Equal(table, kept) {
			t.Error("the table changed")
		}
	}
}

func TestPickWrong(t *testing.T) {
	var long []uint64
	for i := range uint64(65) {
		long = append(long, i+1)
	}
	if d, e := degree.Pick(long[:64], 63); e != api.OK || d != 64 {
		t.Error(d, e)
	}
	for i, table := range [][]uint64{nil, {}, {0}, {0, 1}, {1, 1}, {2, 1}, {1, 3, 2}, {1, 2, 2}, {1, 0}, {5, 6, 0}, long, make([]uint64, 3)} {
		if d, e := degree.Pick(table, 5); e != api.ErrArg || d != 0 {
			t.Error(i, d, e)
		}
	}
}
