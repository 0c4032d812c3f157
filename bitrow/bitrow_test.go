package bitrow_test

import (
	"math"
	"slices"
	"testing"

	"downpour/api"
	"downpour/bitrow"
	"downpour/sample"
)

func of(t *testing.T, n int, places ...int) api.Row {
	t.Helper()
	r, e := bitrow.Of(n, places)
	if e != api.OK {
		t.Fatal(n, places, e)
	}
	return r
}

func isZero(r api.Row) bool { return r.N == 0 && len(r.Words) == 0 }

var lengths = []int{0, 1, 2, 5, 63, 64, 65, 127, 128, 129, 448, 449, 511, 512}

var wrongLengths = []int{-1, 513, 576, -512, math.MinInt, math.MaxInt}

// badRows may not be, each for one fault alone.
func badRows() []api.Row {
	return []api.Row{
		{N: 1},
		{Words: []uint64{0}},
		{N: 64},
		{N: 64, Words: []uint64{0, 0}},
		{N: 65, Words: []uint64{0}},
		{N: 3, Words: []uint64{8}},
		{N: 63, Words: []uint64{1 << 63}},
		{N: 65, Words: []uint64{0, 2}},
		{N: 511, Words: []uint64{0, 0, 0, 0, 0, 0, 0, 1 << 63}},
		{N: 513, Words: make([]uint64, 9)},
		{N: -1},
		{N: -64, Words: []uint64{0}},
		{N: -63},
		{N: math.MinInt},
		{N: math.MaxInt},
		{N: math.MaxInt, Words: []uint64{0}},
	}
}

func TestNew(t *testing.T) {
	for _, n := range lengths {
		r, e := bitrow.New(n)
		if e != api.OK || r.N != n || len(r.Words) != (n+63)/64 || !bitrow.Right(r) {
			t.Error(n, r, e)
		}
		for _, w := range r.Words {
			if w != 0 {
				t.Error(n, r)
			}
		}
	}
	for _, n := range wrongLengths {
		if r, e := bitrow.New(n); e != api.ErrSize || !isZero(r) {
			t.Error(n, r, e)
		}
	}
}

func TestOf(t *testing.T) {
	if r := of(t, 5, 0, 3); r.N != 5 || !slices.Equal(r.Words, []uint64{9}) {
		t.Error(r)
	}
	if r := of(t, 130, 129, 64, 64, 63, 129, 0); r.N != 130 || !slices.Equal(r.Words, []uint64{1<<63 | 1, 1, 2}) {
		t.Error(r)
	}
	if r := of(t, 512, 511); r.Words[7] != 1<<63 {
		t.Error(r)
	}
	if r := of(t, 0); r.N != 0 || len(r.Words) != 0 {
		t.Error(r)
	}
}

func TestOfWrong(t *testing.T) {
	for _, n := range wrongLengths {
		for _, p := range [][]int{nil, {0}, {-1}, {600}} {
			if r, e := bitrow.Of(n, p); e != api.ErrSize || !isZero(r) {
				t.Error(n, p, r, e)
			}
		}
	}
	for _, n := range lengths {
		for _, p := range []int{-1, n, n + 1, n + 64, math.MinInt, math.MaxInt} {
			if r, e := bitrow.Of(n, []int{p}); e != api.ErrRange || !isZero(r) {
				t.Error(n, p, r, e)
			}
		}
	}
	if r, e := bitrow.Of(8, []int{1, 2, 8}); e != api.ErrRange || !isZero(r) {
		t.Error(r, e)
	}
}

func TestRight(t *testing.T) {
	for i, r := range badRows() {
		if bitrow.Right(r) {
			t.Error(i, r)
		}
	}
	for _, n := range lengths {
		r := api.Row{N: n, Words: make([]uint64, (n+63)/64)}
		if !bitrow.Right(r) {
			t.Error(n)
		}
		for i := range n {
			r.Words[i/64] |= 1 << (i % 64)
		}
		if !bitrow.Right(r) {
			t.Error(n, "all bits 1")
		}
	}
	if !bitrow.Right(api.Row{Words: []uint64{}}) {
		t.Error("an empty list counts as nil")
	}
}

func TestRowsThatMayNotBe(t *testing.T) {
	good, _ := bitrow.New(3)
	for i, r := range badRows() {
		if p, e := bitrow.Places(r); e != api.ErrArg || len(p) != 0 {
			t.Error("Places", i, p, e)
		}
		for _, at := range []int{0, -1, 600} {
			if b, e := bitrow.Get(r, at); e != api.ErrArg || b != 0 {
				t.Error("Get", i, b, e)
			}
		}
		if n, e := bitrow.First(r); e != api.ErrArg || n != 0 {
			t.Error("First", i, n, e)
		}
		if n, e := bitrow.Count(r); e != api.ErrArg || n != 0 {
			t.Error("Count", i, n, e)
		}
		for name, join := range joins {
			for _, p := range [][2]api.Row{{r, r}, {r, good}, {good, r}} {
				if x, e := join(p[0], p[1]); e != api.ErrArg || !isZero(x) {
					t.Error(name, i, x, e)
				}
			}
		}
	}
}

var joins = map[string]func(a, b api.Row) (api.Row, api.Errno){"Xor": bitrow.Xor, "And": bitrow.And}

func TestJoinSizes(t *testing.T) {
	for name, join := range joins {
		for _, n := range [][2]int{{0, 1}, {1, 0}, {63, 64}, {65, 66}, {512, 511}, {70, 3}} {
			a, _ := bitrow.New(n[0])
			b, _ := bitrow.New(n[1])
			if x, e := join(a, b); e != api.ErrSize || !isZero(x) {
				t.Error(name, n, x, e)
			}
		}
	}
}

func TestGetRange(t *testing.T) {
	for _, n := range lengths {
		r := of(t, n)
		for _, i := range []int{-1, n, n + 1, 512, math.MinInt, math.MaxInt} {
			if b, e := bitrow.Get(r, i); e != api.ErrRange || b != 0 {
				t.Error(n, i, b, e)
			}
		}
	}
}

func TestPlaces(t *testing.T) {
	s := sample.Seed(1)
	for range 20 {
		for _, n := range lengths {
			want := s.Places(n, 2)
			r := of(t, n, want...)
			if got, e := bitrow.Places(r); e != api.OK || !slices.Equal(got, want) {
				t.Fatal(n, got, want, e)
			}
			if c, e := bitrow.Count(r); e != api.OK || c != len(want) {
				t.Fatal(n, c, len(want), e)
			}
			checkFirst(t, r, want)
			for i := range n {
				b, e := bitrow.Get(r, i)
				if e != api.OK || (b == 1) != slices.Contains(want, i) || b < 0 || b > 1 {
					t.Fatal(n, i, b, e)
				}
			}
		}
	}
}

func checkFirst(t *testing.T, r api.Row, places []int) {
	t.Helper()
	f, e := bitrow.First(r)
	if len(places) == 0 {
		if e != api.ErrNone || f != 0 {
			t.Fatal(r, f, e)
		}
		return
	}
	if e != api.OK || f != places[0] {
		t.Fatal(r, f, e)
	}
}

func TestFirst(t *testing.T) {
	for _, p := range []int{0, 1, 63, 64, 127, 128, 510, 511} {
		checkFirst(t, of(t, 512, p, 511), []int{p})
	}
	for _, n := range lengths {
		checkFirst(t, of(t, n), nil)
	}
}

func TestJoins(t *testing.T) {
	s := sample.Seed(2)
	for range 20 {
		for _, n := range lengths {
			p, q := s.Places(n, 2), s.Places(n, 2)
			a, b := of(t, n, p...), of(t, n, q...)
			var one, both []int
			for i := range n {
				x, y := slices.Contains(p, i), slices.Contains(q, i)
				if x != y {
					one = append(one, i)
				}
				if x && y {
					both = append(both, i)
				}
			}
			if x, e := bitrow.Xor(a, b); e != api.OK || !bitrow.Like(x, of(t, n, one...)) {
				t.Fatal(n, x, e)
			}
			if x, e := bitrow.And(a, b); e != api.OK || !bitrow.Like(x, of(t, n, both...)) {
				t.Fatal(n, x, e)
			}
			if !bitrow.Like(a, of(t, n, p...)) || !bitrow.Like(b, of(t, n, q...)) {
				t.Fatal("an argument changed", n)
			}
		}
	}
}

func TestLaws(t *testing.T) {
	s := sample.Seed(3)
	for range 50 {
		n := s.Below(513)
		a, b := of(t, n, s.Places(n, 2)...), of(t, n, s.Places(n, 2)...)
		x, _ := bitrow.Xor(a, b)
		y, _ := bitrow.And(a, b)
		if back, e := bitrow.Xor(x, b); e != api.OK || !bitrow.Like(back, a) {
			t.Fatal(n, back, e)
		}
		ca, _ := bitrow.Count(a)
		cb, _ := bitrow.Count(b)
		cx, _ := bitrow.Count(x)
		cy, _ := bitrow.Count(y)
		if ca+cb != cx+2*cy {
			t.Fatal(n, ca, cb, cx, cy)
		}
		p, _ := bitrow.Places(a)
		if !bitrow.Like(of(t, n, p...), a) {
			t.Fatal(n, p)
		}
	}
}

func TestLike(t *testing.T) {
	same := [][2]api.Row{
		{{}, {Words: []uint64{}}},
		{{N: 3, Words: []uint64{5}}, {N: 3, Words: []uint64{5}}},
		{{N: 900}, {N: 900}},
		{{N: 3, Words: []uint64{255}}, {N: 3, Words: []uint64{255}}},
	}
	for i, p := range same {
		if !bitrow.Like(p[0], p[1]) {
			t.Error(i)
		}
	}
	other := [][2]api.Row{
		{{N: 3, Words: []uint64{5}}, {N: 4, Words: []uint64{5}}},
		{{N: 3, Words: []uint64{5}}, {N: 3, Words: []uint64{4}}},
		{{N: 3, Words: []uint64{5}}, {N: 3, Words: []uint64{5, 0}}},
		{{N: 70, Words: []uint64{5, 1}}, {N: 70, Words: []uint64{5, 2}}},
		{{N: 3}, {N: 3, Words: []uint64{0}}},
	}
	for i, p := range other {
		if bitrow.Like(p[0], p[1]) || bitrow.Like(p[1], p[0]) {
			t.Error(i)
		}
	}
}

func TestPlacesAreNotChanged(t *testing.T) {
	l := []int{5, 1, 5, 0}
	of(t, 6, l...)
	if !slices.Equal(l, []int{5, 1, 5, 0}) {
		t.Error(l)
	}
}
