package block_test

import (
	"math"
	"slices"
	"strings"
	"testing"

	"downpour/api"
	"downpour/bitrow"
	"downpour/block"
	"downpour/sample"
)

// sum is the tests' own, byte by byte.
func sum(n int, l []string) string {
	b := make([]byte, n)
	for _, s := range l {
		for i := range n {
			b[i] ^= s[i]
		}
	}
	return string(b)
}

var sizes = []int{0, 1, 2, 7, 63, 64}

var wrongSizes = []int{-1, 65, 128, math.MinInt, math.MaxInt}

func TestZero(t *testing.T) {
	for _, n := range sizes {
		if s, e := block.Zero(n); e != api.OK || s != strings.Repeat("\x00", n) {
			t.Errorf("%d %q %d", n, s, e)
		}
	}
	for _, n := range wrongSizes {
		if s, e := block.Zero(n); e != api.ErrSize || s != "" {
			t.Errorf("%d %q %d", n, s, e)
		}
	}
}

func TestXor(t *testing.T) {
	if s, e := block.Xor("a", "b"); e != api.OK || s != "\x03" {
		t.Errorf("%q %d", s, e)
	}
	s := sample.Seed(1)
	for _, n := range sizes {
		for range 10 {
			a, b := s.Text(n), s.Text(n)
			if x, e := block.Xor(a, b); e != api.OK || x != sum(n, []string{a, b}) {
				t.Errorf("%q %q %q %d", a, b, x, e)
			}
		}
	}
	long := strings.Repeat("x", 65)
	for _, p := range [][2]string{{"", "a"}, {"a", ""}, {"ab", "abc"}, {"abc", "ab"}, {long, long}, {long, "x"}, {"x", long}, {long[1:], long}, {long, long[1:]}} {
		if x, e := block.Xor(p[0], p[1]); e != api.ErrSize || x != "" {
			t.Errorf("%q %q %d", p, x, e)
		}
	}
}

func TestNought(t *testing.T) {
	for _, n := range []int{0, 1, 2, 64, 65, 1000} {
		if !block.Nought(strings.Repeat("\x00", n)) {
			t.Error(n)
		}
	}
	for _, s := range []string{"0", " ", "\x01", "\x80", "\x00\x01", "\x01\x00", "\x00\xff\x00", strings.Repeat("\x00", 70) + "a"} {
		if block.Nought(s) {
			t.Errorf("%q", s)
		}
	}
}

func TestSum(t *testing.T) {
	s := sample.Seed(2)
	for _, n := range sizes {
		for _, many := range []int{0, 1, 2, 3, 10, 63, 64} {
			l := s.Blocks(many, n)
			kept := slices.Clone(l)
			if x, e := block.Sum(n, l...); e != api.OK || x != sum(n, l) {
				t.Errorf("%d %d %q %d", n, many, x, e)
			}
			if !slices.Equal(l, kept) {
				t.Error("an argument changed", n, many)
			}
		}
	}
	if x, e := block.Sum(3); e != api.OK || x != "\x00\x00\x00" {
		t.Errorf("%q %d", x, e)
	}
}

// wrongSums are arguments of Sum that tell ErrSize, for one fault each.
var wrongSums = []struct {
	n int
	l []string
}{
	{-1, nil},
	{65, nil},
	{65, []string{strings.Repeat("a", 65)}},
	{math.MinInt, nil},
	{math.MaxInt, nil},
	{1, []string{""}},
	{1, []string{"ab"}},
	{0, []string{"a"}},
	{2, []string{"ab", "a"}},
	{2, []string{"ab", "ab", "abc"}},
	{0, make([]string, 65)},
	{1, slices.Repeat([]string{"a"}, 65)},
	{64, slices.Repeat([]string{strings.Repeat("a", 64)}, 1000)},
}

func TestSumWrong(t *testing.T) {
	for i, w := range wrongSums {
		if x, e := block.Sum(w.n, w.l...); e != api.ErrSize || x != "" {
			t.Errorf("%d %q %d", i, x, e)
		}
	}
}

func TestPick(t *testing.T) {
	s := sample.Seed(3)
	for _, n := range sizes {
		for _, many := range []int{0, 1, 2, 5, 64} {
			for range 5 {
				l, r := s.Blocks(many, n), s.Row(many, 2)
				kept, row := slices.Clone(l), slices.Clone(r.Words)
				var named []string
				for i := range many {
					if b, _ := bitrow.Get(r, i); b == 1 {
						named = append(named, l[i])
					}
				}
				if x, e := block.Pick(n, l, r); e != api.OK || x != sum(n, named) {
					t.Errorf("%d %d %q %d", n, many, x, e)
				}
				if !slices.Equal(l, kept) || !slices.Equal(r.Words, row) {
					t.Error("an argument changed", n, many)
				}
			}
		}
	}
	if x, e := block.Pick(1, []string{"a", "b", "d"}, api.Row{N: 3, Words: []uint64{5}}); e != api.OK || x != "\x05" {
		t.Errorf("%q %d", x, e)
	}
}

func TestPickWrong(t *testing.T) {
	three := api.Row{N: 3, Words: []uint64{5}}
	rows := []api.Row{
		{N: 3},
		{N: 3, Words: []uint64{8}},
		{N: 3, Words: []uint64{0, 0}},
		{N: -1},
		{N: 2, Words: []uint64{1}},
		{N: 4, Words: []uint64{1}},
		{},
	}
	for i, r := range rows {
		if x, e := block.Pick(1, []string{"a", "b", "d"}, r); e != api.ErrArg || x != "" {
			t.Errorf("%d %q %d", i, x, e)
		}
	}
	if x, e := block.Pick(1, nil, three); e != api.ErrArg || x != "" {
		t.Errorf("%q %d", x, e)
	}
	// A fault of the blocks comes ahead of one of the row, also where the row does not name the block.
	for i, w := range wrongSums {
		for _, r := range append(rows, three, api.Row{N: len(w.l), Words: make([]uint64, (len(w.l)+63)/64)}) {
			if x, e := block.Pick(w.n, w.l, r); e != api.ErrSize || x != "" {
				t.Errorf("%d %q %d", i, x, e)
			}
		}
	}
}

func TestLaws(t *testing.T) {
	s := sample.Seed(4)
	for range 50 {
		n, many := s.Below(65), 2+s.Below(62)
		l := s.Blocks(many, n)
		all, _ := block.Sum(n, l...)
		turned := slices.Clone(l)
		slices.Reverse(turned)
		if x, _ := block.Sum(n, turned...); x != all {
			t.Fatal("order matters", n, many)
		}
		if x, _ := block.Sum(n, append(slices.Clone(l[:many-1]), l[0])...); x != sum(n, l[1:many-1]) {
			t.Fatal("twice is not out", n, many)
		}
		a, b := s.Row(many, 2), s.Row(many, 2)
		c, _ := bitrow.Xor(a, b)
		x, _ := block.Pick(n, l, a)
		y, _ := block.Pick(n, l, b)
		z, _ := block.Xor(x, y)
		if p, e := block.Pick(n, l, c); e != api.OK || p != z {
			t.Fatal("two picks are not their rows' one", n, many)
		}
	}
}
