package neighbours_test

import (
	"math"
	"slices"
	"testing"

	"downpour/api"
	"downpour/bitrow"
	"downpour/degree"
	"downpour/neighbours"
	"downpour/random"
)

func ids(many int) []uint64 {
	l := []uint64{0, 1, 2, 3, 1 << 32, 1 << 63, math.MaxUint64}
	for i := range many {
		l = append(l, uint64(i)*0x9E3779B97F4A7C15+10)
	}
	return l[:many]
}

// places are by the document's words, from the layers below.
func places(k int, id uint64) []int {
	state := random.Start(id)
	state, number := random.Next(state)
	table, _ := degree.Table(k)
	many, _ := degree.Pick(table, number)
	_, l, _ := random.Some(state, k, many)
	return l
}

var wrong = []int{0, -1, 65, 512, math.MinInt, math.MaxInt}

func TestPlaces(t *testing.T) {
	for k := 1; k <= 64; k++ {
		for _, id := range ids(60) {
			l, e := neighbours.Places(k, id)
			if e != api.OK || !slices.Equal(l, places(k, id)) {
				t.Fatal(k, id, l, e)
			}
			if len(l) < 1 || len(l) > k || l[0] < 0 || l[len(l)-1] >= k {
				t.Fatal(k, id, l)
			}
			for i := range l[1:] {
				if l[i] >= l[i+1] {
					t.Fatal("places do not rise", k, id, l)
				}
			}
			if again, _ := neighbours.Places(k, id); !slices.Equal(again, l) {
				t.Fatal("the same id has other blocks", k, id)
			}
		}
	}
	for _, id := range ids(60) {
		if l, e := neighbours.Places(1, id); e != api.OK || !slices.Equal(l, []int{0}) {
			t.Error(id, l, e)
		}
	}
}

func TestKinds(t *testing.T) {
	degrees := map[int]int{}
	firsts := map[int]int{}
	for id := range uint64(400) {
		l, _ := neighbours.Places(10, id)
		degrees[len(l)]++
		firsts[l[0]]++
	}
	if len(degrees) < 5 || len(firsts) < 7 {
		t.Error("symbols are too much alike", degrees, firsts)
	}
}

func TestRow(t *testing.T) {
	for k := 1; k <= 64; k++ {
		for _, id := range ids(20) {
			want, _ := bitrow.Of(k, places(k, id))
			if r, e := neighbours.Row(k, id); e != api.OK || !bitrow.Like(r, want) {
				t.Fatal(k, id, r, e)
			}
		}
	}
}

func TestRows(t *testing.T) {
	for _, k := range []int{1, 2, 10, 63, 64} {
		for _, many := range []int{0, 1, 2, 63, 64} {
			l := ids(many)
			if many > 2 {
				l[1] = l[0]
			}
			kept := slices.Clone(l)
			m, e := neighbours.Rows(k, l)
			if e != api.OK || m.N != k || len(m.Rows) != many {
				t.Fatal(k, many, m, e)
			}
			for i, id := range l {
				want, _ := bitrow.Of(k, places(k, id))
				if !bitrow.Like(m.Rows[i], want) {
					t.Fatal(k, i)
				}
			}
			if !slices.Equal(l, kept) {
				t.Error("the ids changed")
			}
		}
	}
	if m, e := neighbours.Rows(7, nil); e != api.OK || m.N != 7 || len(m.Rows) != 0 {
		t.Error(m, e)
	}
}

func TestWrong(t *testing.T) {
	for _, k := range wrong {
		if l, e := neighbours.Places(k, 1); e != api.ErrSize || len(l) != 0 {
			t.Error(k, l, e)
		}
		if r, e := neighbours.Row(k, 1); e != api.ErrSize || r.N != 0 || len(r.Words) != 0 {
			t.Error(k, r, e)
		}
		for _, l := range [][]uint64{nil, {1}, make([]uint64, 65)} {
			if m, e := neighbours.Rows(k, l); e != api.ErrSize || m.N != 0 || len(m.Rows) != 0 {
				t.Error(k, m, e)
			}
		}
	}
	for _, many := range []int{65, 66, 1000} {
		if m, e := neighbours.Rows(5, ids(many)); e != api.ErrSize || m.N != 0 || len(m.Rows) != 0 {
			t.Error(many, m, e)
		}
	}
}
