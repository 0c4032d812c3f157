package peel_test

import (
	"math"
	"slices"
	"strings"
	"testing"

	"downpour/api"
	"downpour/bitrow"
	"downpour/block"
	"downpour/encode"
	"downpour/equations"
	"downpour/neighbours"
	"downpour/peel"
	"downpour/sample"
)

func eq(bits, sum string) api.Equation { return api.Equation{Row: sample.Row(bits), Sum: sum} }

func sameEquation(a, b api.Equation) bool { return bitrow.Like(a.Row, b.Row) && a.Sum == b.Sum }

func sameEquations(a, b []api.Equation) bool { return slices.EqualFunc(a, b, sameEquation) }

func same(a, b api.Peeled) bool {
	return slices.Equal(a.At, b.At) && slices.Equal(a.Told, b.Told) && sameEquations(a.Left, b.Left)
}

func copyOf(l []api.Equation) []api.Equation {
	l = slices.Clone(l)
	for i := range l {
		l[i].Row.Words = slices.Clone(l[i].Row.Words)
	}
	return l
}

// peeled is the tests' own, by the document's words, with rows as sets of places.
func peeled(k int, rows []api.Equation) api.Peeled {
	has := make([][]bool, len(rows))
	sums := make([][]byte, len(rows))
	for i, e := range rows {
		has[i] = make([]bool, k)
		places, _ := bitrow.Places(e.Row)
		for _, p := range places {
			has[i][p] = true
		}
		sums[i] = []byte(e.Sum)
	}
	told := map[int]string{}
	for i := 0; i < len(rows); i++ {
		place, many := 0, 0
		for p, b := range has[i] {
			if b {
				place, many = p, many+1
			}
		}
		if many != 1 {
			continue
		}
		b := string(sums[i])
		told[place] = b
		for j := range rows {
			if has[j][place] {
				has[j][place] = false
				for x := range len(b) {
					sums[j][x] ^= b[x]
				}
			}
		}
		i = -1
	}
	var p api.Peeled
	for c := range k {
		if b, ok := told[c]; ok {
			p.At, p.Told = append(p.At, c), append(p.Told, b)
		}
	}
	for i := range rows {
		var places []int
		for c, b := range has[i] {
			if b {
				places = append(places, c)
			}
		}
		if len(places) > 0 || !block.Nought(string(sums[i])) {
			r, _ := bitrow.Of(k, places)
			p.Left = append(p.Left, api.Equation{Row: r, Sum: string(sums[i])})
		}
	}
	return p
}

func first(rows []api.Equation) (int, api.Errno) {
	for i, e := range rows {
		if n, _ := bitrow.Count(e.Row); n == 1 {
			return i, api.OK
		}
	}
	return 0, api.ErrNone
}

func check(t *testing.T, k int, rows []api.Equation) api.Peeled {
	t.Helper()
	kept := copyOf(rows)
	p, e := peel.Peel(k, rows)
	if e != api.OK || !same(p, peeled(k, rows)) {
		t.Fatal(k, rows, p, e)
	}
	want, why := first(rows)
	if i, e := peel.Step(k, rows); i != want || e != why {
		t.Fatal(k, rows, i, e)
	}
	if i, e := peel.Step(k, p.Left); i != 0 || e != api.ErrNone {
		t.Fatal("what is left tells a block", i, e)
	}
	if !sameEquations(rows, kept) {
		t.Fatal("the equations changed")
	}
	return p
}

func TestExamples(t *testing.T) {
	for i, c := range []struct {
		k    int
		rows []api.Equation
		want api.Peeled
	}{
		{2, []api.Equation{eq("10", "a"), eq("11", "b")}, api.Peeled{At: []int{0, 1}, Told: []string{"a", "\x03"}}},
		{3, []api.Equation{eq("110", "a"), eq("011", "b"), eq("101", "c")}, api.Peeled{Left: []api.Equation{eq("110", "a"), eq("011", "b"), eq("101", "c")}}},
		{3, nil, api.Peeled{}},
		{2, []api.Equation{eq("00", "\x00")}, api.Peeled{}},
		{2, []api.Equation{eq("00", "\x01")}, api.Peeled{Left: []api.Equation{eq("00", "\x01")}}},
		{2, []api.Equation{eq("10", "a"), eq("10", "a")}, api.Peeled{At: []int{0}, Told: []string{"a"}}},
		{2, []api.Equation{eq("10", "a"), eq("10", "b")}, api.Peeled{At: []int{0}, Told: []string{"a"}, Left: []api.Equation{eq("00", "\x03")}}},
		{2, []api.Equation{eq("10", "b"), eq("10", "a")}, api.Peeled{At: []int{0}, Told: []string{"b"}, Left: []api.Equation{eq("00", "\x03")}}},
		{2, []api.Equation{eq("01", ""), eq("10", ""), eq("11", "")}, api.Peeled{At: []int{0, 1}, Told: []string{"", ""}}},
		{1, []api.Equation{eq("1", "xyz")}, api.Peeled{At: []int{0}, Told: []string{"xyz"}}},
		// Which of two that differ tells a block hangs on the order in which the equations are gone through.
		{2, []api.Equation{eq("11", "a"), eq("01", "b"), eq("10", "d")}, api.Peeled{At: []int{0, 1}, Told: []string{"\x03", "b"}, Left: []api.Equation{eq("00", "g")}}},
	} {
		if p := check(t, c.k, c.rows); !same(p, c.want) {
			t.Error(i, p)
		}
	}
}

func TestStep(t *testing.T) {
	if i, e := peel.Step(3, []api.Equation{eq("110", "a"), eq("000", "b"), eq("001", "c"), eq("100", "d")}); i != 2 || e != api.OK {
		t.Error(i, e)
	}
	if i, e := peel.Step(3, nil); i != 0 || e != api.ErrNone {
		t.Error(i, e)
	}
}

func TestPeelAnyEquations(t *testing.T) {
	s := sample.Seed(1)
	for range 500 {
		k, n := 1+s.Below(8), s.Below(3)
		var rows []api.Equation
		for range s.Below(12) {
			rows = append(rows, api.Equation{Row: s.Row(k, 1+s.Below(6)), Sum: s.Text(n)})
		}
		check(t, k, rows)
	}
	for _, p := range [][3]int{{64, 64, 64}, {64, 64, 0}, {1, 64, 64}, {64, 1, 5}} {
		var rows []api.Equation
		for range p[1] {
			rows = append(rows, api.Equation{Row: s.Row(p[0], 40), Sum: s.Text(p[2])})
		}
		check(t, p[0], rows)
	}
}

func TestPeelOfBlocks(t *testing.T) {
	s := sample.Seed(2)
	for range 100 {
		k, n := 1+s.Below(30), s.Below(20)
		source := s.Blocks(k, n)
		var rows []api.Equation
		for range s.Below(60) {
			r := s.Row(k, 2+s.Below(2*k))
			sum, _ := block.Pick(n, source, r)
			rows = append(rows, api.Equation{Row: r, Sum: sum})
		}
		p := check(t, k, rows)
		for i, c := range p.At {
			if p.Told[i] != source[c] {
				t.Fatal("another block is told", k, c)
			}
		}
		for _, e := range p.Left {
			if many, _ := bitrow.Count(e.Row); many < 2 {
				t.Fatal("an equation is left that should not be", e)
			}
		}
		turned := slices.Clone(rows)
		slices.Reverse(turned)
		if q := check(t, k, turned); !slices.Equal(q.At, p.At) || !slices.Equal(q.Told, p.Told) {
			t.Fatal("order matters", k)
		}
	}
}

func TestOf(t *testing.T) {
	s := sample.Seed(3)
	for _, k := range []int{1, 5, 64} {
		source := s.Blocks(k, 3)
		store, _ := equations.New(k, 3, 64)
		if l, e := peel.Of(store); e != api.OK || len(l) != 0 {
			t.Error(l, e)
		}
		for id := range uint64(64) {
			x, _ := encode.Make(source, id*13)
			store, _ = equations.Add(store, x)
		}
		l, e := peel.Of(store)
		if e != api.OK || len(l) != 64 {
			t.Fatal(len(l), e)
		}
		for i, x := range store.Symbols {
			r, _ := neighbours.Row(k, x.Id)
			if !sameEquation(l[i], api.Equation{Row: r, Sum: x.Data}) {
				t.Fatal(k, i)
			}
		}
	}
	for i, bad := range []api.Store{{}, {K: 65, Size: 1, Cap: 1}, {K: 1, Size: 1, Cap: 1, Symbols: []api.Symbol{{}}}, {K: 1, Cap: 2, Symbols: make([]api.Symbol, 2)}, {K: 1, Cap: 1, Symbols: []api.Symbol{{Id: 1}, {Id: 2}}}} {
		if l, e := peel.Of(bad); e != api.ErrArg || len(l) != 0 {
			t.Error(i, l, e)
		}
	}
}

func TestWrong(t *testing.T) {
	long := strings.Repeat("a", 65)
	for i, c := range []struct {
		k    int
		rows []api.Equation
	}{
		{0, nil},
		{-1, nil},
		{65, nil},
		{math.MinInt, nil},
		{math.MaxInt, nil},
		{0, []api.Equation{eq("", "a")}},
		{65, []api.Equation{eq(strings.Repeat("0", 65), "a")}},
		{2, []api.Equation{eq("1", "a")}},
		{2, []api.Equation{eq("10", "a"), eq("100", "a")}},
		{2, []api.Equation{{Row: api.Row{N: 2}}}},
		{2, []api.Equation{{Row: api.Row{N: 2, Words: []uint64{4}}}}},
		{2, []api.Equation{eq("10", "a"), eq("10", "")}},
		{2, []api.Equation{eq("10", "a"), eq("10", "b"), eq("10", "bc")}},
		{2, []api.Equation{eq("10", long)}},
		{2, []api.Equation{eq("10", long), eq("11", long)}},
		{2, slices.Repeat([]api.Equation{eq("10", "a")}, 65)},
	} {
		if n, e := peel.Step(c.k, c.rows); e != api.ErrArg || n != 0 {
			t.Error("Step", i, n, e)
		}
		if p, e := peel.Peel(c.k, c.rows); e != api.ErrArg || !same(p, api.Peeled{}) {
			t.Error("Peel", i, p, e)
		}
	}
}
