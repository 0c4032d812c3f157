package history_test

import (
	"math"
	"slices"
	"testing"

	"downpour/api"
	"downpour/history"
	"downpour/sample"
)

// seed makes the inputs of these tests.
type seed struct{ sample.Seed }

func call(i int) api.Call {
	return api.Call{What: i % 5, Object: uint64(i), K: 3, Size: 1, Cap: 4, Symbol: api.Symbol{Id: 7, Data: "x"}}
}

func begin(client, n int) api.Event {
	return api.Event{Client: client, N: n, Call: call(10*client + n)}
}

func end(client, n int) api.Event {
	e := begin(client, n)
	e.Back = 1
	e.Reply = api.Reply{N: 100*client + n, Blocks: []string{"a", "b"}}
	return e
}

func sameReply(a, b api.Reply) bool {
	return a.Why == b.Why && a.N == b.N && slices.Equal(a.Blocks, b.Blocks)
}

func sameSpan(a, b api.Span) bool {
	return a.Client == b.Client && a.N == b.N && a.Call == b.Call && a.From == b.From && a.To == b.To && sameReply(a.Reply, b.Reply)
}

func span(client, n, from, to int) api.Span {
	s := api.Span{Client: client, N: n, Call: call(10*client + n), From: from, To: to}
	if to >= 0 {
		s.Reply = end(client, n).Reply
	}
	return s
}

// some is a history of clients who go on in any order.
func (s *seed) some(many int) []api.Event {
	var h []api.Event
	var at [4]int
	for range many {
		c := s.Below(4)
		if at[c]%2 == 0 {
			h = append(h, begin(c, at[c]/2))
		} else {
			h = append(h, end(c, at[c]/2))
		}
		at[c]++
	}
	return h
}

// alone has so many calls one after the other.
func (s *seed) alone(many int) []api.Event {
	var h []api.Event
	var at [4]int
	for range many {
		c := s.Below(4)
		h = append(h, begin(c, at[c]), end(c, at[c]))
		at[c]++
	}
	return h
}

// changed is a history with one event changed.
func changed(h []api.Event, i int, change func(*api.Event)) []api.Event {
	h = slices.Clone(h)
	change(&h[i])
	return h
}

func bad() [][]api.Event {
	good := []api.Event{begin(0, 0), begin(1, 0), end(0, 0), begin(0, 1), end(1, 0), end(0, 1)}
	l := [][]api.Event{
		{end(0, 0)},
		{begin(0, 0), begin(0, 1)},
		{begin(0, 0), begin(0, 0)},
		{begin(0, 0), end(0, 0), end(0, 0)},
		{begin(0, 0), end(0, 0), end(0, 1)},
		{begin(0, 1)},
		{begin(0, 0), end(0, 0), begin(0, 0)},
		{begin(0, 0), end(0, 0), begin(0, 2)},
		{begin(0, 0), end(1, 0)},
	}
	for _, x := range []int{-1, 2, math.MinInt, math.MaxInt} {
		l = append(l, changed(good, 0, func(e *api.Event) { e.Back = x }), changed(good, 5, func(e *api.Event) { e.Back = x }))
	}
	for _, x := range []int{-1, 4, math.MinInt, math.MaxInt} {
		l = append(l, changed(good[:1], 0, func(e *api.Event) { e.Client = x }))
		l = append(l, append(slices.Clone(good), changed(good[:1], 0, func(e *api.Event) { e.Client = x })...))
	}
	for _, x := range []int{-1, 1, math.MaxInt} {
		l = append(l, changed(good, 4, func(e *api.Event) { e.N = x }), changed(good, 1, func(e *api.Event) { e.N = x }))
	}
	for _, change := range []func(*api.Event){
		func(e *api.Event) { e.Call.What++ },
		func(e *api.Event) { e.Call.Object++ },
		func(e *api.Event) { e.Call.K++ },
		func(e *api.Event) { e.Call.Size++ },
		func(e *api.Event) { e.Call.Cap++ },
		func(e *api.Event) { e.Call.Symbol.Id++ },
		func(e *api.Event) { e.Call.Symbol.Data = "y" },
	} {
		l = append(l, changed(good, 2, change), changed(good, 3, change), changed(good, 5, change))
	}
	s := seed{9}
	return append(l, s.some(49), s.some(50), s.alone(25))
}

func TestRight(t *testing.T) {
	s := seed{1}
	for n := range 49 {
		for range 5 {
			if h := s.some(n); !history.Right(h) {
				t.Error(h)
			}
		}
	}
	for n := range 25 {
		if h := s.alone(n); !history.Right(h) {
			t.Error(h)
		}
	}
	odd := changed([]api.Event{begin(0, 0), end(0, 0)}, 0, func(e *api.Event) { e.Reply = api.Reply{Why: 9, N: 3, Blocks: []string{"z"}} })
	if !history.Right(odd) || !history.Right(nil) {
		t.Error("replies of beginnings do not count")
	}
	for i, h := range bad() {
		if history.Right(h) {
			t.Error(i, h)
		}
	}
}

func TestWrong(t *testing.T) {
	for i, h := range bad() {
		if l, e := history.Spans(h); e != api.ErrArg || len(l) != 0 {
			t.Error(i, l, e)
		}
		if ok, e := history.Alone(h); e != api.ErrArg || ok {
			t.Error(i, ok, e)
		}
		if l, e := history.Open(h); e != api.ErrArg || len(l) != 0 {
			t.Error(i, l, e)
		}
	}
}

func TestSpansExamples(t *testing.T) {
	for i, c := range []struct {
		h    []api.Event
		want []api.Span
		open []int
	}{
		{nil, nil, nil},
		{[]api.Event{begin(0, 0), begin(1, 0), end(0, 0)}, []api.Span{span(0, 0, 0, 2), span(1, 0, 1, -1)}, []int{1}},
		{[]api.Event{begin(2, 0), end(2, 0), begin(2, 1)}, []api.Span{span(2, 0, 0, 1), span(2, 1, 2, -1)}, []int{1}},
		{[]api.Event{begin(3, 0), begin(0, 0), begin(1, 0), end(1, 0), begin(2, 0), begin(1, 1)}, []api.Span{span(3, 0, 0, -1), span(0, 0, 1, -1), span(1, 0, 2, 3), span(2, 0, 4, -1), span(1, 1, 5, -1)}, []int{0, 1, 3, 4}},
	} {
		if l, e := history.Spans(c.h); e != api.OK || !slices.EqualFunc(l, c.want, sameSpan) {
			t.Error(i, l, e)
		}
		if l, e := history.Open(c.h); e != api.OK || !slices.Equal(l, c.open) {
			t.Error(i, l, e)
		}
	}
	odd := changed([]api.Event{begin(0, 0)}, 0, func(e *api.Event) { e.Reply = api.Reply{Why: 9, N: 3, Blocks: []string{"z"}} })
	if l, e := history.Spans(odd); e != api.OK || len(l) != 1 || !sameSpan(l[0], span(0, 0, 0, -1)) {
		t.Error("the reply of a beginning does not count", l, e)
	}
}

func TestSpans(t *testing.T) {
	s := seed{2}
	for range 200 {
		h := s.some(s.Below(49))
		var want []api.Span
		var open []int
		for i, e := range h {
			if e.Back == 1 {
				continue
			}
			to := slices.IndexFunc(h, func(o api.Event) bool { return o.Client == e.Client && o.N == e.N && o.Back == 1 })
			if to < 0 {
				open = append(open, len(want))
			}
			want = append(want, span(e.Client, e.N, i, to))
		}
		l, e := history.Spans(h)
		if e != api.OK || !slices.EqualFunc(l, want, sameSpan) {
			t.Fatal(h, l, e)
		}
		if o, e := history.Open(h); e != api.OK || !slices.Equal(o, open) || len(o) > 4 {
			t.Fatal(h, o, e)
		}
		checkOrder(t, l)
	}
}

// checkOrder holds what follows of spans' order.
func checkOrder(t *testing.T, l []api.Span) {
	t.Helper()
	for _, a := range l {
		for _, b := range l {
			if history.Before(a, b) && (history.Before(b, a) || a.From >= b.From) {
				t.Fatal(a, b)
			}
			if a.Client == b.Client && a.N < b.N && !history.Before(a, b) {
				t.Fatal("a client's calls are not ahead of each other", a, b)
			}
			for _, c := range l {
				if history.Before(a, b) && history.Before(b, c) && !history.Before(a, c) {
					t.Fatal(a, b, c)
				}
			}
		}
	}
}

func TestBefore(t *testing.T) {
	for _, c := range []struct {
		to, from int
		want     bool
	}{
		{2, 3, true},
		{0, 1, true},
		{2, 2, false},
		{3, 2, false},
		{-1, 5, false},
		{-1, 0, false},
		{-5, 3, false},
		{math.MinInt, math.MaxInt, false},
		{0, math.MaxInt, true},
	} {
		if got := history.Before(api.Span{From: 9, To: c.to}, api.Span{From: c.from, To: 1}); got != c.want {
			t.Error(c, got)
		}
	}
}

func TestAlone(t *testing.T) {
	for i, c := range []struct {
		h    []api.Event
		want bool
	}{
		{nil, true},
		{[]api.Event{begin(0, 0)}, true},
		{[]api.Event{begin(0, 0), end(0, 0)}, true},
		{[]api.Event{begin(0, 0), end(0, 0), begin(0, 1)}, true},
		{[]api.Event{begin(0, 0), end(0, 0), begin(1, 0), end(1, 0), begin(2, 0)}, true},
		{[]api.Event{begin(0, 0), begin(1, 0)}, false},
		{[]api.Event{begin(0, 0), begin(1, 0), end(0, 0), end(1, 0)}, false},
		{[]api.Event{begin(0, 0), begin(1, 0), end(1, 0)}, false},
		{[]api.Event{begin(0, 0), begin(1, 0), end(1, 0), end(0, 0)}, false},
		{[]api.Event{begin(0, 0), end(0, 0), begin(1, 0), begin(0, 1), end(1, 0)}, false},
	} {
		if ok, e := history.Alone(c.h); e != api.OK || ok != c.want {
			t.Error(i, ok, e)
		}
	}
	s := seed{3}
	for n := range 25 {
		h := s.alone(n)
		if ok, e := history.Alone(h); e != api.OK || !ok {
			t.Error(n, ok, e)
		}
		if n > 0 {
			if ok, e := history.Alone(h[:len(h)-1]); e != api.OK || !ok {
				t.Error(n, ok, e)
			}
		}
	}
}

func TestHistoriesAreNotChanged(t *testing.T) {
	s := seed{4}
	h := s.some(48)
	kept := slices.Clone(h)
	history.Right(h)
	history.Spans(h)
	history.Alone(h)
	history.Open(h)
	for i := range h {
		if h[i].Client != kept[i].Client || h[i].Back != kept[i].Back || h[i].N != kept[i].N || h[i].Call != kept[i].Call || !sameReply(h[i].Reply, kept[i].Reply) {
			t.Error(i)
		}
	}
}
