package shard_test

import (
	"math"
	"slices"
	"strings"
	"testing"

	"downpour/api"
	"downpour/sample"
	"downpour/shard"
)

func sym(id uint64, data string) api.Symbol { return api.Symbol{Id: id, Data: data} }

// symbols of one byte, of these ids.
func symbols(ids ...uint64) []api.Symbol {
	var l []api.Symbol
	for _, id := range ids {
		l = append(l, sym(id, "a"))
	}
	return l
}

func of(size, cap int, lists ...[]api.Symbol) api.Shards {
	return api.Shards{Cap: cap, Size: size, Lists: lists}
}

func same(a, b api.Shards) bool {
	return a.Cap == b.Cap && a.Size == b.Size && slices.EqualFunc(a.Lists, b.Lists, slices.Equal)
}

func copyOf(s api.Shards) api.Shards {
	s.Lists = slices.Clone(s.Lists)
	for i, l := range s.Lists {
		s.Lists[i] = slices.Clone(l)
	}
	return s
}

func isZero(s api.Shards) bool { return s.Cap == 0 && s.Size == 0 && len(s.Lists) == 0 }

func good() []api.Shards {
	var all []uint64
	for i := range uint64(64) {
		all = append(all, i)
	}
	return []api.Shards{
		of(0, 1, nil),
		of(64, 64, make([][]api.Symbol, 16)...),
		of(1, 5, symbols(0, 1, 7, math.MaxUint64)),
		of(1, 4, symbols(0, 2, 10), symbols(1)),
		of(1, 3, symbols(3, 6), nil, symbols(math.MaxUint64-1-(math.MaxUint64-1)%3+2)),
		of(1, 64, symbols(all...)),
		of(2, 2, []api.Symbol{sym(4, "xy")}, []api.Symbol{sym(1, "zz")}),
	}
}

// bad may not be, each for one fault alone.
func bad() []api.Shards {
	var all []uint64
	for i := range uint64(65) {
		all = append(all, i)
	}
	return []api.Shards{
		{},
		of(1, 5),
		of(1, 5, make([][]api.Symbol, 17)...),
		of(1, 0, nil),
		of(1, -1, nil),
		of(1, 65, nil),
		of(1, math.MinInt, nil),
		of(1, math.MaxInt, nil),
		of(-1, 5, nil),
		of(65, 5, nil),
		of(math.MinInt, 5, nil),
		of(math.MaxInt, 5, nil),
		of(1, 1, symbols(0), symbols(1)),
		of(1, 2, symbols(0, 1, 2)),
		of(1, 64, symbols(all...)),
		of(1, 5, []api.Symbol{sym(1, "")}),
		of(1, 5, []api.Symbol{sym(1, "a"), sym(2, "ab")}),
		of(0, 5, symbols(1)),
		of(1, 5, symbols(1), nil),
		of(1, 5, symbols(0), symbols(1, 2)),
		of(1, 5, symbols(0, 0)),
		of(1, 5, symbols(2, 1)),
		of(1, 5, symbols(0, 2, 4), symbols(1, 5, 3)),
	}
}

func TestNew(t *testing.T) {
	for _, many := range []int{1, 2, 15, 16} {
		for _, size := range []int{0, 1, 64} {
			for _, cap := range []int{1, 2, 64} {
				s, e := shard.New(many, size, cap)
				if e != api.OK || !same(s, of(size, cap, make([][]api.Symbol, many)...)) || !shard.Right(s) {
					t.Error(many, size, cap, s, e)
				}
			}
		}
	}
	for _, w := range [][3]int{{0, 1, 1}, {-1, 1, 1}, {17, 1, 1}, {math.MaxInt, 1, 1}, {math.MinInt, 1, 1}, {1, -1, 1}, {1, 65, 1}, {1, math.MaxInt, 1}, {1, 1, 0}, {1, 1, -1}, {1, 1, 65}, {1, 1, math.MaxInt}} {
		if s, e := shard.New(w[0], w[1], w[2]); e != api.ErrSize || !isZero(s) {
			t.Error(w, s, e)
		}
	}
}

func TestRight(t *testing.T) {
	for i, s := range good() {
		if !shard.Right(s) {
			t.Error(i)
		}
	}
	for i, s := range bad() {
		if shard.Right(s) {
			t.Error(i)
		}
	}
}

func TestLike(t *testing.T) {
	for i, s := range append(good(), bad()...) {
		if !shard.Like(s, copyOf(s)) {
			t.Error(i)
		}
	}
	if !shard.Like(of(1, 1, nil), of(1, 1, []api.Symbol{})) {
		t.Error("an empty list counts as nil")
	}
	s := of(1, 4, symbols(0, 2), symbols(1))
	for i, o := range []api.Shards{of(2, 4, symbols(0, 2), symbols(1)), of(1, 5, symbols(0, 2), symbols(1)), of(1, 4, symbols(0, 2)), of(1, 4, symbols(0, 2), symbols(1), nil), of(1, 4, symbols(0), symbols(1)), of(1, 4, symbols(0, 4), symbols(1)), of(1, 4, symbols(1), symbols(0, 2)), of(1, 4, []api.Symbol{sym(0, "b"), sym(2, "a")}, symbols(1))} {
		if shard.Like(s, o) || shard.Like(o, s) {
			t.Error(i)
		}
	}
}

func TestOf(t *testing.T) {
	four, _ := shard.New(4, 1, 1)
	if n, e := shard.Of(four, 10); e != api.OK || n != 2 {
		t.Error(n, e)
	}
	for many := 1; many <= 16; many++ {
		s, _ := shard.New(many, 1, 1)
		for _, id := range []uint64{0, 1, 15, 16, 17, 1 << 32, 1 << 63, math.MaxUint64} {
			if n, e := shard.Of(s, id); e != api.OK || n != int(id%uint64(many)) {
				t.Error(many, id, n, e)
			}
		}
	}
}

func TestAdd(t *testing.T) {
	s := of(1, 10, symbols(0, 10), symbols(1, 21, 31))
	for _, c := range []struct {
		id   uint64
		want api.Shards
	}{
		{4, of(1, 10, symbols(0, 4, 10), symbols(1, 21, 31))},
		{12, of(1, 10, symbols(0, 10, 12), symbols(1, 21, 31))},
		{3, of(1, 10, symbols(0, 10), symbols(1, 3, 21, 31))},
		{25, of(1, 10, symbols(0, 10), symbols(1, 21, 25, 31))},
		{math.MaxUint64, of(1, 10, symbols(0, 10), symbols(1, 21, 31, math.MaxUint64))},
	} {
		kept := copyOf(s)
		if got, e := shard.Add(s, sym(c.id, "a")); e != api.OK || !same(got, c.want) {
			t.Error(c.id, got, e)
		}
		if !same(s, kept) {
			t.Error("the stripes changed")
		}
	}
	if got, e := shard.Add(of(0, 1, nil, nil), sym(0, "")); e != api.OK || !same(got, of(0, 1, []api.Symbol{sym(0, "")}, nil)) {
		t.Error(got, e)
	}
}

// A list with room behind it is not written into.
func TestAddKeepsRoom(t *testing.T) {
	room := make([]api.Symbol, 2, 10)
	room[0], room[1] = sym(1, "a"), sym(5, "a")
	s := of(1, 10, room)
	a, _ := shard.Add(s, sym(3, "a"))
	b, _ := shard.Add(s, sym(9, "a"))
	if !same(a, of(1, 10, symbols(1, 3, 5))) || !same(b, of(1, 10, symbols(1, 5, 9))) || room[:3][2] != (api.Symbol{}) || room[1].Id != 5 {
		t.Error(a, b, room[:3])
	}
}

func TestAddWrong(t *testing.T) {
	full := of(1, 3, symbols(0, 2), symbols(1))
	for i, c := range []struct {
		s    api.Shards
		x    api.Symbol
		want api.Errno
	}{
		{of(1, 9, nil), sym(1, ""), api.ErrSize},
		{of(1, 9, nil), sym(1, "ab"), api.ErrSize},
		{of(1, 9, symbols(1, 5)), sym(5, "x"), api.ErrOld},
		{of(1, 9, symbols(1, 5)), sym(1, "a"), api.ErrOld},
		{full, sym(4, "a"), api.ErrFull},
		{full, sym(2, "a"), api.ErrOld},
		{full, sym(1, "b"), api.ErrOld},
		{full, sym(2, "ab"), api.ErrSize},
		{full, sym(4, ""), api.ErrSize},
	} {
		if got, e := shard.Add(c.s, c.x); e != c.want || !isZero(got) {
			t.Error(i, got, e)
		}
	}
}

func TestAll(t *testing.T) {
	for i, s := range good() {
		var want []api.Symbol
		for _, l := range s.Lists {
			want = append(want, l...)
		}
		slices.SortFunc(want, func(a, b api.Symbol) int {
			if a.Id < b.Id {
				return -1
			}
			return 1
		})
		kept := copyOf(s)
		if l, e := shard.All(s); e != api.OK || !slices.Equal(l, want) {
			t.Error(i, l, e)
		}
		if !same(s, kept) {
			t.Error("the stripes changed", i)
		}
	}
}

func TestLocks(t *testing.T) {
	s, _ := shard.New(5, 1, 1)
	for _, c := range []struct {
		ids  []uint64
		want []int
	}{
		{nil, nil},
		{[]uint64{7}, []int{2}},
		{[]uint64{9, 3, 14, 0, 5, 3}, []int{0, 3, 4}},
		{[]uint64{4, 3, 2, 1, 0, 9, 8, 7, 6, 5}, []int{0, 1, 2, 3, 4}},
		{[]uint64{math.MaxUint64}, []int{0}},
	} {
		kept := slices.Clone(c.ids)
		if l, e := shard.Locks(s, c.ids); e != api.OK || !slices.Equal(l, c.want) {
			t.Error(c.ids, l, e)
		}
		if !slices.Equal(c.ids, kept) {
			t.Error("the ids changed")
		}
	}
	sixteen, _ := shard.New(16, 1, 1)
	var ids []uint64
	for i := range uint64(1000) {
		ids = append(ids, (i+1)*999983)
	}
	if l, e := shard.Locks(sixteen, ids); e != api.OK || len(l) != 16 || !slices.IsSorted(l) {
		t.Error(l, e)
	}
}

func TestWrong(t *testing.T) {
	for i, s := range bad() {
		if n, e := shard.Of(s, 1); e != api.ErrArg || n != 0 {
			t.Error("Of", i, n, e)
		}
		for _, x := range []api.Symbol{sym(1, "a"), sym(1000, "a"), sym(1, strings.Repeat("a", 70))} {
			if got, e := shard.Add(s, x); e != api.ErrArg || !isZero(got) {
				t.Error("Add", i, got, e)
			}
		}
		if l, e := shard.All(s); e != api.ErrArg || len(l) != 0 {
			t.Error("All", i, l, e)
		}
		for _, ids := range [][]uint64{nil, {1, 2}} {
			if l, e := shard.Locks(s, ids); e != api.ErrArg || len(l) != 0 {
				t.Error("Locks", i, l, e)
			}
		}
	}
}

func TestStripesDoNotMatter(t *testing.T) {
	r := sample.Seed(1)
	for range 30 {
		cap := 1 + r.Below(64)
		var come []api.Symbol
		for range 40 {
			come = append(come, sym(uint64(r.Below(60)), strings.Repeat("x", r.Below(8)/7+1)))
		}
		one, _ := shard.New(1, 1, cap)
		var told [17][]api.Errno
		var all [17][]api.Symbol
		for many := 1; many <= 16; many++ {
			s, _ := shard.New(many, 1, cap)
			one = s
			for _, x := range come {
				next, e := shard.Add(one, x)
				told[many] = append(told[many], e)
				if e == api.OK {
					one = next
				}
				if !shard.Right(one) {
					t.Fatal(many, one)
				}
			}
			all[many], _ = shard.All(one)
			if !slices.Equal(told[many], told[1]) || !slices.Equal(all[many], all[1]) {
				t.Fatal(many, cap)
			}
		}
	}
}

func TestOrderDoesNotMatter(t *testing.T) {
	a, _ := shard.New(3, 1, 20)
	b, _ := shard.New(3, 1, 20)
	for i := range uint64(20) {
		a, _ = shard.Add(a, sym(i*i, "a"))
		b, _ = shard.Add(b, sym((19-i)*(19-i), "a"))
	}
	if !same(a, b) {
		t.Error(a, b)
	}
}
