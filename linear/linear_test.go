package linear_test

import (
	"math"
	"slices"
	"testing"

	"downpour/api"
	"downpour/encode"
	"downpour/history"
	"downpour/linear"
	"downpour/machine"
	"downpour/receiver"
	"downpour/sample"
)

var source = []string{"ab", "cd"}

// seed makes the inputs of these tests.
type seed struct{ sample.Seed }

func open(id uint64) api.Call {
	return api.Call{What: api.COpen, Object: id, K: 2, Size: 2, Cap: 9}
}

func add(id, n uint64) api.Call {
	x, _ := encode.Make(source, n)
	return api.Call{What: api.CAdd, Object: id, Symbol: x}
}

func call(what int, id uint64) api.Call { return api.Call{What: what, Object: id} }

func (s *seed) call() api.Call {
	id := uint64(s.Below(2))
	return []api.Call{open(id), open(id), add(id, uint64(s.Below(3))), add(id, uint64(s.Below(3))), call(api.CProgress, id), call(api.CResult, id), call(api.CClose, id)}[s.Below(7)]
}

// clients are not more than so many calls, done till somewhere.
func (s *seed) history(most int) []api.Event {
	calls := make([][]api.Call, 1+s.Below(4))
	for range s.Below(most + 1) {
		i := s.Below(len(calls))
		if len(calls[i]) < 6 {
			calls[i] = append(calls[i], s.call())
		}
	}
	c, _ := machine.New(calls, 1+s.Below(3))
	picks := make([]int, s.Below(5*most+10))
	for i := range picks {
		picks[i] = s.Below(100)
	}
	c, _ = machine.Run(c, picks)
	return c.History
}

func begin(client, n int, c api.Call) api.Event { return api.Event{Client: client, N: n, Call: c} }

func end(client, n int, c api.Call, r api.Reply) api.Event {
	return api.Event{Client: client, Back: 1, N: n, Call: c, Reply: r}
}

func sameReply(a, b api.Reply) bool {
	return a.Why == b.Why && a.N == b.N && slices.Equal(a.Blocks, b.Blocks)
}

// accepts is the tests' own, by the document's words.
func accepts(spans []api.Span, order []int) bool {
	for i, p := range order {
		if p < 0 || p >= len(spans) || slices.Contains(order[:i], p) {
			return false
		}
		for _, q := range order[:i] {
			if history.Before(spans[p], spans[q]) {
				return false
			}
		}
	}
	for i, s := range spans {
		if s.To >= 0 && !slices.Contains(order, i) {
			return false
		}
	}
	var r api.Receiver
	for _, p := range order {
		var reply api.Reply
		r, reply = receiver.Do(r, spans[p].Call)
		if spans[p].To >= 0 && !sameReply(reply, spans[p].Reply) {
			return false
		}
	}
	return true
}

// first goes through all orders, in their order.
func first(spans []api.Span, order []int) ([]int, bool) {
	if accepts(spans, order) {
		return order, true
	}
	for p := range spans {
		if !slices.Contains(order, p) {
			if l, ok := first(spans, append(slices.Clone(order), p)); ok {
				return l, true
			}
		}
	}
	return nil, false
}

func check(t *testing.T, h []api.Event) ([]int, api.Errno) {
	t.Helper()
	spans, _ := history.Spans(h)
	want, ok := first(spans, nil)
	got, e := linear.Order(h)
	if ok && (e != api.OK || !slices.Equal(got, want)) || !ok && (e != api.ErrNone || len(got) != 0) {
		t.Fatal(h, got, e, want, ok)
	}
	return got, e
}

func TestReplay(t *testing.T) {
	s := seed{1}
	for n := range 49 {
		var calls []api.Call
		for range n {
			calls = append(calls, s.call())
		}
		kept := slices.Clone(calls)
		replies, r, e := linear.Replay(calls)
		if e != api.OK || len(replies) != n {
			t.Fatal(n, replies, e)
		}
		var want api.Receiver
		for i, c := range calls {
			var reply api.Reply
			want, reply = receiver.Do(want, c)
			if !sameReply(reply, replies[i]) {
				t.Fatal(n, i, reply, replies[i])
			}
		}
		if !receiver.Like(r, want) || !slices.Equal(calls, kept) {
			t.Fatal(n, r, want)
		}
	}
	for _, n := range []int{49, 50, 1000} {
		if replies, r, e := linear.Replay(make([]api.Call, n)); e != api.ErrSize || len(replies) != 0 || len(r.Objects) != 0 {
			t.Error(n, replies, r, e)
		}
	}
}

func TestOrderExamples(t *testing.T) {
	none := api.Reply{Why: api.ErrNoObject}
	opened := api.Reply{N: 2}
	progress := call(api.CProgress, 1)
	// A client who asks while another one opens is told either.
	for _, c := range []struct {
		reply api.Reply
		want  []int
		why   api.Errno
	}{
		{none, []int{1, 0}, api.OK},
		{api.Reply{}, []int{0, 1}, api.OK},
		{api.Reply{N: 1}, nil, api.ErrNone},
	} {
		h := []api.Event{begin(0, 0, open(1)), begin(1, 0, progress), end(1, 0, progress, c.reply), end(0, 0, open(1), opened)}
		if got, e := check(t, h); e != c.why || !slices.Equal(got, c.want) {
			t.Error(c, got, e)
		}
	}
	// One behind the other the order is theirs.
	h := []api.Event{begin(0, 0, open(1)), end(0, 0, open(1), opened), begin(1, 0, progress), end(1, 0, progress, none)}
	if got, e := check(t, h); e != api.ErrNone || len(got) != 0 {
		t.Error(got, e)
	}
	// A call that has not ended is in the order just if it is needed.
	h = []api.Event{begin(0, 0, open(1)), begin(1, 0, progress), end(1, 0, progress, api.Reply{})}
	if got, e := check(t, h); e != api.OK || !slices.Equal(got, []int{0, 1}) {
		t.Error(got, e)
	}
	h[2].Reply = none
	if got, e := check(t, h); e != api.OK || !slices.Equal(got, []int{1}) {
		t.Error(got, e)
	}
	if got, e := check(t, nil); e != api.OK || len(got) != 0 {
		t.Error(got, e)
	}
	if got, e := check(t, h[:2]); e != api.OK || len(got) != 0 {
		t.Error(got, e)
	}
}

func TestOrderOfClients(t *testing.T) {
	s := seed{2}
	for range 300 {
		h := s.history(5)
		got, e := check(t, h)
		if e != api.OK {
			t.Fatal("clients at once without an order", h, e)
		}
		if ok, e := linear.Accepts(h, got); e != api.OK || !ok {
			t.Fatal(h, got, ok, e)
		}
	}
}

func TestOrderOfChangedReplies(t *testing.T) {
	s := seed{3}
	none := 0
	for range 300 {
		h := s.history(5)
		if len(h) == 0 {
			continue
		}
		h = slices.Clone(h)
		for range 1 + s.Below(2) {
			i := s.Below(len(h))
			h[i].Reply = h[s.Below(len(h))].Reply
			if s.Below(4) == 0 {
				h[i].Reply.N++
			}
		}
		if _, e := check(t, h); e == api.ErrNone {
			none++
		}
	}
	if none == 0 {
		t.Error("each history had an order")
	}
}

func TestAccepts(t *testing.T) {
	s := seed{4}
	yes := 0
	for range 300 {
		h := s.history(4)
		spans, _ := history.Spans(h)
		var orders [][]int
		var all func(order []int)
		all = func(order []int) {
			orders = append(orders, order)
			for p := range spans {
				if !slices.Contains(order, p) {
					all(append(slices.Clone(order), p))
				}
			}
		}
		all(nil)
		for _, o := range orders {
			orders = append(orders, append(slices.Clone(o), -1), append(slices.Clone(o), len(spans)), append([]int{math.MaxInt}, o...))
			if len(o) > 0 {
				orders = append(orders, append(slices.Clone(o), o[0]))
			}
		}
		for _, o := range orders {
			kept := slices.Clone(o)
			want := accepts(spans, o)
			if ok, e := linear.Accepts(h, o); e != api.OK || ok != want || !slices.Equal(o, kept) {
				t.Fatal(h, o, ok, e)
			}
			if want {
				yes++
			}
		}
	}
	if yes == 0 {
		t.Error("no order was accepted")
	}
}

func TestRepliesAreHeldWhole(t *testing.T) {
	calls := []api.Call{open(1), add(1, 0), add(1, 1), add(1, 2), add(1, 3), add(1, 4), call(api.CResult, 1)}
	replies, _, _ := linear.Replay(calls)
	var h []api.Event
	for i, c := range calls {
		h = append(h, begin(0, i, c), end(0, i, c, replies[i]))
	}
	order := []int{0, 1, 2, 3, 4, 5, 6}
	if ok, e := linear.Accepts(h, order); e != api.OK || !ok || replies[6].N != 2 {
		t.Fatal(ok, e, replies)
	}
	if got, e := linear.Order(h); e != api.OK || !slices.Equal(got, order) {
		t.Error(got, e)
	}
	for i, change := range []func(*api.Reply){
		func(r *api.Reply) { r.Why = api.ErrNotReady },
		func(r *api.Reply) { r.N = 3 },
		func(r *api.Reply) { r.Blocks = []string{"ab", "ce"} },
		func(r *api.Reply) { r.Blocks = r.Blocks[:1] },
		func(r *api.Reply) { r.Blocks = nil },
	} {
		c := slices.Clone(h)
		change(&c[13].Reply)
		if ok, e := linear.Accepts(c, order); e != api.OK || ok {
			t.Error(i, ok, e)
		}
		if got, e := linear.Order(c); e != api.ErrNone || len(got) != 0 {
			t.Error(i, got, e)
		}
	}
}

func TestWrong(t *testing.T) {
	x := call(api.CProgress, 1)
	none := api.Reply{Why: api.ErrNoObject}
	bad := [][]api.Event{
		{end(0, 0, x, none)},
		{begin(0, 1, x)},
		{begin(4, 0, x)},
		{begin(0, 0, x), end(0, 0, open(1), none)},
		make([]api.Event, 49),
	}
	for i, h := range bad {
		if ok, e := linear.Accepts(h, nil); e != api.ErrArg || ok {
			t.Error(i, ok, e)
		}
		if got, e := linear.Order(h); e != api.ErrArg || len(got) != 0 {
			t.Error(i, got, e)
		}
	}
	var h []api.Event
	var order []int
	for i := range 24 {
		h = append(h, begin(i%4, i/4, x), end(i%4, i/4, x, none))
		order = append(order, i)
		ok, e := linear.Accepts(h, order)
		got, f := linear.Order(h)
		if i < 8 && (e != api.OK || !ok || f != api.OK || !slices.Equal(got, order)) {
			t.Error(i, ok, e, got, f)
		}
		if i >= 8 && (e != api.ErrSize || ok || f != api.ErrSize || len(got) != 0) {
			t.Error(i, ok, e, got, f)
		}
	}
	// A span that has not ended counts, too.
	if _, e := linear.Order(append(slices.Clone(h[:16]), begin(0, 2, x))); e != api.ErrSize {
		t.Error(e)
	}
	broken := append(slices.Clone(h), end(0, 9, x, none))
	if _, e := linear.Order(broken); e != api.ErrArg {
		t.Error("ErrArg comes ahead of ErrSize", e)
	}
}

func TestEightAtOnce(t *testing.T) {
	x := call(api.CProgress, 1)
	var h []api.Event
	for n := range 2 {
		for c := range 4 {
			h = append(h, begin(c, n, x))
		}
		for c := range 4 {
			h = append(h, end(c, n, x, api.Reply{Why: api.ErrNoObject}))
		}
	}
	if got, e := linear.Order(h); e != api.OK || !slices.Equal(got, []int{0, 1, 2, 3, 4, 5, 6, 7}) {
		t.Error(got, e)
	}
	h[len(h)-1].Reply.Why = api.ErrFull
	if got, e := linear.Order(h); e != api.ErrNone || len(got) != 0 {
		t.Error(got, e)
	}
	s := seed{5}
	for range 100 {
		h := s.history(8)
		got, e := linear.Order(h)
		if e != api.OK {
			t.Fatal(h, e)
		}
		if ok, e := linear.Accepts(h, got); e != api.OK || !ok {
			t.Fatal(h, got, ok, e)
		}
	}
}

func TestOneAfterTheOther(t *testing.T) {
	s := seed{6}
	for range 50 {
		var r api.Receiver
		var h []api.Event
		var at [4]int
		var want []int
		for i := range s.Below(9) {
			c, client := s.call(), s.Below(4)
			var reply api.Reply
			r, reply = receiver.Do(r, c)
			h = append(h, begin(client, at[client], c), end(client, at[client], c, reply))
			at[client]++
			want = append(want, i)
		}
		if got, e := linear.Order(h); e != api.OK || !slices.Equal(got, want) {
			t.Fatal(h, got, e)
		}
		if len(want) > 1 {
			other := slices.Clone(want)
			other[0], other[1] = 1, 0
			if ok, e := linear.Accepts(h, other); e != api.OK || ok {
				t.Fatal("another order", h, ok, e)
			}
		}
	}
}
