package ripple_test

import (
	"math"
	"slices"
	"testing"

	"downpour/api"
	"downpour/ripple"
	"downpour/sample"
)

// seed makes the inputs of these tests.
type seed struct{ sample.Seed }

func (s *seed) drop() api.Drop { return drop(s.Below(5)-1, uint64(s.Below(6))) }

func drop(degree int, id uint64) api.Drop { return api.Drop{Degree: degree, Id: id} }

func push(degree int, id uint64) api.Deed { return api.Deed{Drop: drop(degree, id)} }

var take = api.Deed{Take: true, Drop: api.Drop{Degree: -100, Id: 1}}

// ahead is the tests' own.
func ahead(a, b api.Drop) bool {
	if a.Degree != b.Degree {
		return a.Degree < b.Degree
	}
	return a.Id < b.Id
}

// run is the tests' own: the queue is a list that is searched.
func run(l []api.Deed) (taken, left []api.Drop, vain int) {
	for _, d := range l {
		if !d.Take {
			left = append(left, d.Drop)
			continue
		}
		if len(left) == 0 {
			vain++
			continue
		}
		least := 0
		for i := range left {
			if ahead(left[i], left[least]) {
				least = i
			}
		}
		taken = append(taken, left[least])
		left = slices.Delete(left, least, least+1)
	}
	return taken, order(left), vain
}

// order puts each drop ahead of the first one that it comes ahead of.
func order(l []api.Drop) []api.Drop {
	var sorted []api.Drop
	for _, d := range l {
		i := 0
		for i < len(sorted) && !ahead(d, sorted[i]) {
			i++
		}
		sorted = slices.Insert(sorted, i, d)
	}
	return sorted
}

func TestBefore(t *testing.T) {
	l := []api.Drop{drop(math.MinInt, 9), drop(-1, 0), drop(0, 0), drop(0, 1), drop(0, math.MaxUint64), drop(1, 0), drop(1, 7), drop(1, 9), drop(2, 5), drop(math.MaxInt, 0)}
	for i, a := range l {
		for j, b := range l {
			if ripple.Before(a, b) != (i < j) {
				t.Error(a, b)
			}
		}
	}
}

func TestSorted(t *testing.T) {
	s := seed{1}
	for n := range 60 {
		var l []api.Drop
		for range n {
			l = append(l, s.drop())
		}
		kept := slices.Clone(l)
		if got := ripple.Sorted(l); !slices.Equal(got, order(l)) {
			t.Fatal(l, got)
		}
		if !slices.Equal(l, kept) {
			t.Fatal("the drops changed")
		}
	}
	if got := ripple.Sorted(nil); len(got) != 0 {
		t.Error(got)
	}
}

func TestRunExamples(t *testing.T) {
	taken, left, vain := ripple.Run([]api.Deed{push(2, 5), push(1, 9), push(1, 7), take})
	if !slices.Equal(taken, []api.Drop{drop(1, 7)}) || !slices.Equal(left, []api.Drop{drop(1, 9), drop(2, 5)}) || vain != 0 {
		t.Error(taken, left, vain)
	}
	taken, left, vain = ripple.Run([]api.Deed{take, push(3, 3), push(3, 3), take, take, take, push(4, 1), push(-2, 8)})
	if !slices.Equal(taken, []api.Drop{drop(3, 3), drop(3, 3)}) || !slices.Equal(left, []api.Drop{drop(-2, 8), drop(4, 1)}) || vain != 2 {
		t.Error(taken, left, vain)
	}
	if taken, left, vain = ripple.Run(nil); len(taken) != 0 || len(left) != 0 || vain != 0 {
		t.Error(taken, left, vain)
	}
}

func TestRun(t *testing.T) {
	s := seed{2}
	for n := range 300 {
		var l []api.Deed
		for range n {
			l = append(l, api.Deed{Take: s.Below(5) < 1+n%4, Drop: s.drop()})
		}
		kept := slices.Clone(l)
		taken, left, vain := ripple.Run(l)
		t1, l1, v1 := run(l)
		if !slices.Equal(taken, t1) || !slices.Equal(left, l1) || vain != v1 {
			t.Fatal(l, taken, left, vain)
		}
		if !slices.Equal(l, kept) {
			t.Fatal("the deeds changed")
		}
	}
}

func TestOnce(t *testing.T) {
	s := seed{3}
	var l []api.Deed
	var pushed []api.Drop
	for range 2000 {
		d := api.Deed{Take: s.Below(2) == 1, Drop: s.drop()}
		l = append(l, d)
		if !d.Take {
			pushed = append(pushed, d.Drop)
		}
	}
	taken, left, vain := ripple.Run(l)
	if !slices.Equal(ripple.Sorted(append(slices.Clone(taken), left...)), order(pushed)) || len(taken)+vain != len(l)-len(pushed) {
		t.Error(len(taken), len(left), vain)
	}
}

func TestFirst(t *testing.T) {
	s := seed{4}
	for n := range 30 {
		var l []api.Drop
		for range n {
			l = append(l, s.drop())
		}
		kept := slices.Clone(l)
		for many := range n + 1 {
			if got, e := ripple.First(l, many); e != api.OK || !slices.Equal(got, order(l)[:many]) {
				t.Fatal(l, many, got, e)
			}
		}
		for _, many := range []int{-1, n + 1, math.MinInt, math.MaxInt} {
			if got, e := ripple.First(l, many); e != api.ErrSize || len(got) != 0 {
				t.Fatal(l, many, got, e)
			}
		}
		if !slices.Equal(l, kept) {
			t.Fatal("the drops changed")
		}
	}
}
