package encode_test

import (
	"math"
	"slices"
	"strings"
	"testing"

	"downpour/api"
	"downpour/block"
	"downpour/encode"
	"downpour/neighbours"
	"downpour/sample"
)

// wrongBlocks may not be, each for one fault alone.
func wrongBlocks() [][]string {
	return [][]string{
		nil,
		{},
		make([]string, 65),
		slices.Repeat([]string{"ab"}, 65),
		{"a", ""},
		{"", "a"},
		{"ab", "ab", "abc"},
		{strings.Repeat("a", 65)},
		{strings.Repeat("a", 65), strings.Repeat("a", 65)},
	}
}

func TestCut(t *testing.T) {
	for _, c := range []struct {
		s    string
		n    int
		want []string
	}{
		{"abc", 2, []string{"ab", "c\x00"}},
		{"abcd", 2, []string{"ab", "cd"}},
		{"a", 1, []string{"a"}},
		{"a", 4, []string{"a\x00\x00\x00"}},
		{"\x00", 1, []string{"\x00"}},
		{"äb", 1, []string{"\xc3", "\xa4", "b"}},
	} {
		if l, e := encode.Cut(c.s, c.n); e != api.OK || !slices.Equal(l, c.want) {
			t.Errorf("%q %d %q %d", c.s, c.n, l, e)
		}
	}
	s := sample.Seed(1)
	for n := 1; n <= 64; n++ {
		for _, size := range []int{1, n, n + 1, 64*n - n, 64*n - n + 1, 64*n - 1, 64 * n} {
			text := s.Text(size)
			l, e := encode.Cut(text, n)
			if e != api.OK || len(l) != (size+n-1)/n {
				t.Fatal(n, size, len(l), e)
			}
			for i, b := range l {
				want := text[i*n : min(i*n+n, size)]
				if b != want+strings.Repeat("\x00", n-len(want)) {
					t.Fatalf("%d %d %d %q", n, size, i, b)
				}
			}
			if back, e := encode.Join(l, size); e != api.OK || back != text {
				t.Fatal("not as it was", n, size, e)
			}
		}
	}
}

func TestCutWrong(t *testing.T) {
	for _, n := range []int{0, -1, 65, math.MinInt, math.MaxInt} {
		if l, e := encode.Cut("abc", n); e != api.ErrSize || len(l) != 0 {
			t.Error(n, l, e)
		}
	}
	for _, n := range []int{1, 2, 64} {
		for _, s := range []string{"", strings.Repeat("a", 64*n+1), strings.Repeat("a", 65*n), strings.Repeat("a", 10000)} {
			if l, e := encode.Cut(s, n); e != api.ErrSize || len(l) != 0 {
				t.Error(n, len(s), l, e)
			}
		}
	}
}

func TestJoin(t *testing.T) {
	l := []string{"ab", "cd", "e\x00"}
	for size := range 7 {
		if s, e := encode.Join(l, size); e != api.OK || s != "abcde\x00"[:size] {
			t.Errorf("%d %q %d", size, s, e)
		}
	}
	if s, e := encode.Join([]string{"", ""}, 0); e != api.OK || s != "" {
		t.Error(s, e)
	}
	for _, size := range []int{-1, 7, math.MinInt, math.MaxInt} {
		if s, e := encode.Join(l, size); e != api.ErrSize || s != "" {
			t.Error(size, s, e)
		}
	}
	if s, e := encode.Join([]string{""}, 1); e != api.ErrSize || s != "" {
		t.Error(s, e)
	}
	for i, l := range wrongBlocks() {
		for _, size := range []int{0, 1, -1, math.MaxInt} {
			if s, e := encode.Join(l, size); e != api.ErrArg || s != "" {
				t.Error(i, size, s, e)
			}
		}
	}
}

func TestMake(t *testing.T) {
	s := sample.Seed(2)
	for _, k := range []int{1, 2, 3, 10, 63, 64} {
		for _, n := range []int{0, 1, 5, 64} {
			l := s.Blocks(k, n)
			kept := slices.Clone(l)
			ids := []uint64{0, 7, 7, math.MaxUint64, 1 << 40}
			for len(ids) < 64 {
				ids = append(ids, uint64(len(ids)))
			}
			many, e := encode.Many(l, ids)
			if e != api.OK || len(many) != len(ids) {
				t.Fatal(k, n, e)
			}
			for i, id := range ids {
				row, _ := neighbours.Row(k, id)
				data, _ := block.Pick(n, l, row)
				want := api.Symbol{Id: id, Data: data}
				if x, e := encode.Make(l, id); e != api.OK || x != want || many[i] != want {
					t.Fatal(k, n, id, x, many[i], e)
				}
			}
			if !slices.Equal(l, kept) {
				t.Error("the blocks changed")
			}
		}
	}
	if x, e := encode.Make([]string{"one"}, 99); e != api.OK || x != (api.Symbol{Id: 99, Data: "one"}) {
		t.Error("a symbol of one block is it", x, e)
	}
	if l, e := encode.Many([]string{"one"}, nil); e != api.OK || len(l) != 0 {
		t.Error(l, e)
	}
}

func TestMakeWrong(t *testing.T) {
	for i, l := range wrongBlocks() {
		if x, e := encode.Make(l, 1); e != api.ErrArg || x != (api.Symbol{}) {
			t.Error(i, x, e)
		}
		for _, many := range []int{0, 1, 65} {
			if x, e := encode.Many(l, make([]uint64, many)); e != api.ErrArg || len(x) != 0 {
				t.Error(i, many, x, e)
			}
		}
	}
	for _, many := range []int{65, 500} {
		if x, e := encode.Many([]string{"a", "b"}, make([]uint64, many)); e != api.ErrSize || len(x) != 0 {
			t.Error(many, x, e)
		}
	}
}

func TestLaws(t *testing.T) {
	s := sample.Seed(3)
	for range 50 {
		k, n, id := 1+s.Below(64), s.Below(65), uint64(s.Below(1000))
		a, b := s.Blocks(k, n), s.Blocks(k, n)
		var c, zero []string
		for i := range k {
			x, _ := block.Xor(a[i], b[i])
			c = append(c, x)
			zero = append(zero, strings.Repeat("\x00", n))
		}
		x, _ := encode.Make(a, id)
		y, _ := encode.Make(b, id)
		both, _ := block.Xor(x.Data, y.Data)
		if z, e := encode.Make(c, id); e != api.OK || z.Data != both {
			t.Fatal(k, n, id, e)
		}
		if z, e := encode.Make(zero, id); e != api.OK || !block.Nought(z.Data) {
			t.Fatal(k, n, id, e)
		}
	}
}
