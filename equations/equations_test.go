package equations_test

import (
	"math"
	"slices"
	"strings"
	"testing"

	"downpour/api"
	"downpour/bitrow"
	"downpour/equations"
	"downpour/matrix"
	"downpour/neighbours"
	"downpour/reduce"
)

// symbols are so many of different ids, each of so many bytes.
func symbols(many, size int) []api.Symbol {
	var l []api.Symbol
	for i := range many {
		l = append(l, api.Symbol{Id: uint64(i)*3 + 1, Data: strings.Repeat(string(rune('a'+i%26)), size)})
	}
	return l
}

func store(k, size, cap int, l ...api.Symbol) api.Store {
	return api.Store{K: k, Size: size, Cap: cap, Symbols: l}
}

func same(a, b api.Store) bool {
	return a.K == b.K && a.Size == b.Size && a.Cap == b.Cap && slices.Equal(a.Symbols, b.Symbols)
}

func isZero(s api.Store) bool { return same(s, api.Store{}) }

// wrongSizes are K, Size and Cap, one of which may not be.
var wrongSizes = [][3]int{
	{0, 1, 1}, {-1, 1, 1}, {65, 1, 1}, {math.MinInt, 1, 1}, {math.MaxInt, 1, 1},
	{1, -1, 1}, {1, 65, 1}, {1, math.MinInt, 1}, {1, math.MaxInt, 1},
	{1, 1, 0}, {1, 1, -1}, {1, 1, 65}, {1, 1, math.MinInt}, {1, 1, math.MaxInt},
	{0, 0, 0},
}

// bad may not be, each for one fault alone.
func bad() []api.Store {
	var l []api.Store
	for _, w := range wrongSizes {
		l = append(l, store(w[0], w[1], w[2]))
	}
	twice := symbols(3, 1)
	twice[2].Id = twice[0].Id
	other := symbols(3, 1)
	other[2].Data = "ab"
	short := symbols(3, 1)
	short[0].Data = ""
	return append(l,
		store(4, 1, 2, symbols(3, 1)...),
		store(4, 1, 64, symbols(65, 1)...),
		store(4, 1, 10, twice...),
		store(4, 1, 10, other...),
		store(4, 1, 10, short...),
		store(4, 0, 10, symbols(1, 1)...),
		store(65, 1, 10, symbols(3, 1)...),
	)
}

func good() []api.Store {
	return []api.Store{
		store(1, 0, 1),
		store(64, 64, 64),
		store(64, 64, 64, symbols(64, 64)...),
		store(1, 0, 1, symbols(1, 0)...),
		store(5, 3, 7, symbols(7, 3)...),
		store(5, 3, 7, symbols(2, 3)...),
		store(2, 0, 64, symbols(30, 0)...),
		store(9, 1, 3, api.Symbol{Id: math.MaxUint64, Data: "x"}, api.Symbol{Id: 0, Data: "x"}),
	}
}

func TestNew(t *testing.T) {
	for _, k := range []int{1, 2, 63, 64} {
		for _, size := range []int{0, 1, 63, 64} {
			for _, cap := range []int{1, 2, 63, 64} {
				if s, e := equations.New(k, size, cap); e != api.OK || !same(s, store(k, size, cap)) {
					t.Error(k, size, cap, s, e)
				}
			}
		}
	}
	for _, w := range wrongSizes {
		if s, e := equations.New(w[0], w[1], w[2]); e != api.ErrSize || !isZero(s) {
			t.Error(w, s, e)
		}
	}
}

func TestRight(t *testing.T) {
	for i, s := range good() {
		if !equations.Right(s) {
			t.Error(i)
		}
	}
	for i, s := range bad() {
		if equations.Right(s) {
			t.Error(i)
		}
	}
}

func TestLike(t *testing.T) {
	for i, s := range append(good(), bad()...) {
		c := s
		c.Symbols = slices.Clone(s.Symbols)
		if !equations.Like(s, c) {
			t.Error(i)
		}
	}
	if !equations.Like(store(1, 1, 1), api.Store{K: 1, Size: 1, Cap: 1, Symbols: []api.Symbol{}}) {
		t.Error("an empty list counts as nil")
	}
	s := store(5, 1, 7, symbols(2, 1)...)
	turned := store(5, 1, 7, s.Symbols[1], s.Symbols[0])
	data, id := store(5, 1, 7, symbols(2, 1)...), store(5, 1, 7, symbols(2, 1)...)
	data.Symbols[1].Data = "x"
	id.Symbols[1].Id = 99
	for i, o := range []api.Store{store(6, 1, 7, s.Symbols...), store(5, 2, 7, s.Symbols...), store(5, 1, 8, s.Symbols...), store(5, 1, 7, s.Symbols[:1]...), store(5, 1, 7, symbols(3, 1)...), turned, data, id, store(5, 1, 7)} {
		if equations.Like(s, o) || equations.Like(o, s) {
			t.Error(i)
		}
	}
}

func TestAdd(t *testing.T) {
	for i, s := range good() {
		kept := slices.Clone(s.Symbols)
		x := api.Symbol{Id: 1 << 50, Data: strings.Repeat("z", s.Size)}
		got, e := equations.Add(s, x)
		if len(s.Symbols) == s.Cap {
			if e != api.ErrFull || !isZero(got) {
				t.Error(i, got, e)
			}
			continue
		}
		if e != api.OK || !same(got, store(s.K, s.Size, s.Cap, append(slices.Clone(kept), x)...)) || !equations.Right(got) {
			t.Error(i, got, e)
		}
		if !slices.Equal(s.Symbols, kept) {
			t.Error("the store changed", i)
		}
	}
}

// Two symbols that are put to one store do not meet, even if its list has room behind it.
func TestAddTwiceToOne(t *testing.T) {
	room := make([]api.Symbol, 1, 10)
	room[0] = api.Symbol{Id: 5, Data: "a"}
	s := store(3, 1, 9, room...)
	s.Symbols = room
	a, _ := equations.Add(s, api.Symbol{Id: 6, Data: "b"})
	b, _ := equations.Add(s, api.Symbol{Id: 7, Data: "c"})
	if a.Symbols[1].Id != 6 || b.Symbols[1].Id != 7 || room[:2][1] != (api.Symbol{}) {
		t.Error(a, b, room[:2])
	}
}

func TestAddWrong(t *testing.T) {
	for i, s := range bad() {
		for _, x := range []api.Symbol{{}, {Id: 1000, Data: "a"}, {Id: 1, Data: "abc"}} {
			if got, e := equations.Add(s, x); e != api.ErrArg || !isZero(got) {
				t.Error(i, got, e)
			}
		}
	}
	full := store(4, 2, 3, symbols(3, 2)...)
	old := full.Symbols[1].Id
	for i, c := range []struct {
		s    api.Store
		x    api.Symbol
		want api.Errno
	}{
		{store(4, 2, 3), api.Symbol{Id: 1, Data: "a"}, api.ErrSize},
		{store(4, 2, 3), api.Symbol{Id: 1, Data: "abc"}, api.ErrSize},
		{store(4, 2, 5, full.Symbols...), api.Symbol{Id: old, Data: "xx"}, api.ErrOld},
		{store(4, 2, 5, full.Symbols...), full.Symbols[2], api.ErrOld},
		{store(4, 2, 5, full.Symbols...), full.Symbols[0], api.ErrOld},
		{full, api.Symbol{Id: 1000, Data: "ab"}, api.ErrFull},
		{full, api.Symbol{Id: 1000, Data: "a"}, api.ErrSize},
		{full, api.Symbol{Id: old, Data: "a"}, api.ErrSize},
		{full, api.Symbol{Id: old, Data: "ab"}, api.ErrOld},
	} {
		if got, e := equations.Add(c.s, c.x); e != c.want || !isZero(got) {
			t.Error(i, got, e)
		}
	}
}

func TestRowsSumsRankBytes(t *testing.T) {
	for i, s := range good() {
		var ids []uint64
		var sums []string
		for _, x := range s.Symbols {
			ids = append(ids, x.Id)
			sums = append(sums, x.Data)
		}
		want, _ := neighbours.Rows(s.K, ids)
		if m, e := equations.Rows(s); e != api.OK || !matrix.Like(m, want) {
			t.Error(i, m, e)
		}
		if l, e := equations.Sums(s); e != api.OK || !slices.Equal(l, sums) {
			t.Error(i, l, e)
		}
		rank, _ := reduce.Rank(want)
		if n, e := equations.Rank(s); e != api.OK || n != rank {
			t.Error(i, n, e)
		}
		bytes := 0
		for range s.Symbols {
			bytes += s.Size + int(math.Ceil(float64(s.K)/8))
		}
		if n, e := equations.Bytes(s); e != api.OK || n != bytes {
			t.Error(i, n, e)
		}
	}
	for k, want := range map[int]int{1: 4, 7: 4, 8: 4, 9: 5, 16: 5, 17: 6, 63: 11, 64: 11} {
		if n, e := equations.Bytes(store(k, 3, 4, symbols(2, 3)...)); e != api.OK || n != 2*want {
			t.Error(k, n, e)
		}
	}
}

func TestWrong(t *testing.T) {
	for i, s := range bad() {
		if m, e := equations.Rows(s); e != api.ErrArg || m.N != 0 || len(m.Rows) != 0 {
			t.Error(i, m, e)
		}
		if l, e := equations.Sums(s); e != api.ErrArg || len(l) != 0 {
			t.Error(i, l, e)
		}
		if n, e := equations.Rank(s); e != api.ErrArg || n != 0 {
			t.Error(i, n, e)
		}
		if n, e := equations.Bytes(s); e != api.ErrArg || n != 0 {
			t.Error(i, n, e)
		}
	}
}

func TestGrows(t *testing.T) {
	for _, k := range []int{1, 2, 10, 40} {
		s, _ := equations.New(k, 2, 64)
		rank := 0
		for i := range 64 {
			more, e := equations.Add(s, api.Symbol{Id: uint64(i) * 77, Data: "ab"})
			if e != api.OK || !equations.Right(more) {
				t.Fatal(k, i, e)
			}
			now, _ := equations.Rank(more)
			if now != rank && now != rank+1 || now > k {
				t.Fatal(k, i, rank, now)
			}
			m, _ := equations.Rows(more)
			before := api.Matrix{N: k, Rows: m.Rows[:i]}
			if spans, _ := reduce.Spans(before, m.Rows[i]); spans != (now == rank) {
				t.Fatal(k, i, rank, now)
			}
			if b, _ := bitrow.Count(m.Rows[i]); b == 0 {
				t.Fatal(k, i)
			}
			if n, _ := equations.Bytes(more); n > more.Cap*(more.Size+(k+7)/8) {
				t.Fatal(k, i, n)
			}
			s, rank = more, now
		}
		if _, e := equations.Add(s, api.Symbol{Id: 1, Data: "ab"}); e != api.ErrFull {
			t.Error(k, e)
		}
	}
}
