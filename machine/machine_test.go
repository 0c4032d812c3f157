package machine_test

import (
	"math"
	"slices"
	"testing"

	"downpour/api"
	"downpour/encode"
	"downpour/machine"
	"downpour/receiver"
	"downpour/sample"
)

var source = []string{"ab", "cd"}

// seed makes the inputs of these tests.
type seed struct{ sample.Seed }

func open(id uint64) api.Call {
	return api.Call{What: api.COpen, Object: id, K: 2, Size: 2, Cap: 9}
}

func add(id, n uint64) api.Call {
	x, _ := encode.Make(source, n)
	return api.Call{What: api.CAdd, Object: id, Symbol: x}
}

func call(what int, id uint64) api.Call { return api.Call{What: what, Object: id} }

func (s *seed) calls() [][]api.Call {
	l := make([][]api.Call, s.Below(5))
	for i := range l {
		for range s.Below(7) {
			id := uint64(s.Below(4))
			l[i] = append(l[i], []api.Call{open(id), add(id, uint64(s.Below(5))), call(api.CProgress, id), call(api.CResult, id), call(api.CClose, id), call(9, id)}[s.Below(6)])
		}
	}
	return l
}

func (s *seed) picks(many int) []int {
	var l []int
	for range many {
		l = append(l, s.Below(21)-10)
	}
	return l
}

func copyReply(r api.Reply) api.Reply {
	r.Blocks = slices.Clone(r.Blocks)
	return r
}

func copyOf(c api.Clients) api.Clients {
	c.Calls, c.At, c.Held, c.Told, c.History = slices.Clone(c.Calls), slices.Clone(c.At), slices.Clone(c.Held), slices.Clone(c.Told), slices.Clone(c.History)
	for i := range c.Calls {
		c.Calls[i] = slices.Clone(c.Calls[i])
	}
	for i := range c.Told {
		c.Told[i] = copyReply(c.Told[i])
	}
	for i := range c.History {
		c.History[i].Reply = copyReply(c.History[i].Reply)
	}
	c.Receiver.Objects = slices.Clone(c.Receiver.Objects)
	for i := range c.Receiver.Objects {
		c.Receiver.Objects[i].Store.Symbols = slices.Clone(c.Receiver.Objects[i].Store.Symbols)
	}
	return c
}

func sameReply(a, b api.Reply) bool {
	return a.Why == b.Why && a.N == b.N && slices.Equal(a.Blocks, b.Blocks)
}

func sameEvent(a, b api.Event) bool {
	return a.Client == b.Client && a.Back == b.Back && a.N == b.N && a.Call == b.Call && sameReply(a.Reply, b.Reply)
}

func same(a, b api.Clients) bool {
	return slices.EqualFunc(a.Calls, b.Calls, slices.Equal) && a.Stripes == b.Stripes && slices.Equal(a.At, b.At) && slices.Equal(a.Held, b.Held) && receiver.Like(a.Receiver, b.Receiver) && slices.EqualFunc(a.Told, b.Told, sameReply) && slices.EqualFunc(a.History, b.History, sameEvent)
}

func isZero(c api.Clients) bool { return same(c, api.Clients{}) }

func made(t *testing.T, stripes int, calls ...[]api.Call) api.Clients {
	t.Helper()
	c, e := machine.New(calls, stripes)
	if e != api.OK {
		t.Fatal(e)
	}
	return c
}

func TestNew(t *testing.T) {
	six := slices.Repeat([]api.Call{open(1)}, 6)
	for _, stripes := range []int{1, 2, 16} {
		for _, calls := range [][][]api.Call{nil, {nil}, {six, nil, six, six}, {{open(1), call(77, 3)}}} {
			c, e := machine.New(calls, stripes)
			want := api.Clients{Calls: calls, Stripes: stripes, At: make([]int, len(calls)), Held: slices.Repeat([]int{-1}, stripes), Told: make([]api.Reply, len(calls))}
			if e != api.OK || !same(c, want) {
				t.Error(stripes, c, e)
			}
		}
	}
	for i, w := range []struct {
		calls   [][]api.Call
		stripes int
	}{
		{make([][]api.Call, 5), 1},
		{[][]api.Call{nil, append(slices.Clone(six), open(1))}, 1},
		{nil, 0},
		{nil, -1},
		{nil, 17},
		{nil, math.MaxInt},
		{nil, math.MinInt},
	} {
		if c, e := machine.New(w.calls, w.stripes); e != api.ErrSize || !isZero(c) {
			t.Error(i, c, e)
		}
	}
}

// can and behind are the tests' own.
func can(c api.Clients, i int) bool {
	if c.At[i] == 5*len(c.Calls[i]) {
		return false
	}
	x := c.Calls[i][c.At[i]/5]
	return c.At[i]%5 != 1 || c.Held[x.Object%uint64(c.Stripes)] == -1
}

func behind(c api.Clients, i int) api.Clients {
	c = copyOf(c)
	n := c.At[i] / 5
	x := c.Calls[i][n]
	stripe := x.Object % uint64(c.Stripes)
	switch c.At[i] % 5 {
	case 0:
		c.History = append(c.History, api.Event{Client: i, N: n, Call: x})
	case 1:
		c.Held[stripe] = i
	case 2:
		c.Receiver, c.Told[i] = receiver.Do(c.Receiver, x)
	case 3:
		c.Held[stripe] = -1
	case 4:
		c.History = append(c.History, api.Event{Client: i, Back: 1, N: n, Call: x, Reply: c.Told[i]})
	}
	c.At[i]++
	return c
}

func enabled(c api.Clients) []int {
	var l []int
	for i := range c.Calls {
		if can(c, i) {
			l = append(l, i)
		}
	}
	return l
}

func TestOneClient(t *testing.T) {
	c := made(t, 2, []api.Call{open(3)})
	for step := range 5 {
		if l, e := machine.Enabled(c); e != api.OK || !slices.Equal(l, []int{0}) {
			t.Fatal(step, l, e)
		}
		if ok, e := machine.Done(c); e != api.OK || ok {
			t.Fatal(step, ok, e)
		}
		var e api.Errno
		if c, e = machine.Step(c, 0); e != api.OK || c.At[0] != step+1 {
			t.Fatal(step, e)
		}
		if events := len(c.History); events != 1 && step < 4 || events != 2 && step == 4 {
			t.Fatal(step, events)
		}
		if held := c.Held[1] == 0; held != (step == 1 || step == 2) || c.Held[0] != -1 {
			t.Fatal(step, c.Held)
		}
	}
	if ok, e := machine.Done(c); e != api.OK || !ok {
		t.Error(ok, e)
	}
	if l, e := machine.Enabled(c); e != api.OK || len(l) != 0 {
		t.Error(l, e)
	}
	if x, e := machine.Step(c, 0); e != api.ErrState || !isZero(x) {
		t.Error(x, e)
	}
	reply := api.Reply{N: 2}
	want := []api.Event{{Call: open(3)}, {Back: 1, Call: open(3), Reply: reply}}
	if !slices.EqualFunc(c.History, want, sameEvent) || !sameReply(c.Told[0], reply) || len(c.Receiver.Objects) != 1 {
		t.Error(c)
	}
}

func TestLocks(t *testing.T) {
	c := made(t, 4, []api.Call{open(1)}, []api.Call{open(5)}, []api.Call{open(2)})
	for _, i := range []int{0, 1, 2, 0} {
		c, _ = machine.Step(c, i)
	}
	if l, e := machine.Enabled(c); e != api.OK || !slices.Equal(l, []int{0, 2}) {
		t.Error("the second one waits for its stripe", l, e)
	}
	if x, e := machine.Step(c, 1); e != api.ErrState || !isZero(x) {
		t.Error(x, e)
	}
	c.Held[2] = 1
	if l, e := machine.Enabled(c); e != api.OK || !slices.Equal(l, []int{0}) {
		t.Error("a lock is waited for, whosever it is", l, e)
	}
	own := made(t, 1, []api.Call{open(1)})
	own.At[0], own.Held[0] = 1, 0
	if l, e := machine.Enabled(own); e != api.OK || len(l) != 0 {
		t.Error("a lock is waited for, also if it is the client's own", l, e)
	}
}

func TestStepAgainstTheWords(t *testing.T) {
	r := seed{1}
	for range 150 {
		c := made(t, 1+r.Below(4), r.calls()...)
		for range 130 {
			kept := copyOf(c)
			want := enabled(c)
			if l, e := machine.Enabled(c); e != api.OK || !slices.Equal(l, want) {
				t.Fatal(c, l, e)
			}
			ends := true
			for i := range c.Calls {
				ends = ends && c.At[i] == 5*len(c.Calls[i])
				x, e := machine.Step(c, i)
				if slices.Contains(want, i) && (e != api.OK || !same(x, behind(c, i))) {
					t.Fatal(c, i, x, e)
				}
				if !slices.Contains(want, i) && (e != api.ErrState || !isZero(x)) {
					t.Fatal(c, i, x, e)
				}
			}
			if ok, e := machine.Done(c); e != api.OK || ok != ends {
				t.Fatal(c, ok, e)
			}
			for _, i := range []int{-1, len(c.Calls), 4, math.MinInt, math.MaxInt} {
				if x, e := machine.Step(c, i); e != api.ErrRange || !isZero(x) {
					t.Fatal(i, x, e)
				}
			}
			if !same(c, kept) {
				t.Fatal("the clients changed")
			}
			if len(want) == 0 {
				if !ends {
					t.Fatal("clients stand still", c)
				}
				break
			}
			c, _ = machine.Step(c, want[r.Below(len(want))])
		}
	}
}

func TestRun(t *testing.T) {
	r := seed{2}
	for range 150 {
		c := made(t, 1+r.Below(16), r.calls()...)
		picks := r.picks(r.Below(150))
		if len(picks) > 3 {
			picks[1], picks[2] = math.MinInt, math.MaxInt
		}
		kept, keptPicks := copyOf(c), slices.Clone(picks)
		want := c
		for _, p := range picks {
			l := enabled(want)
			if len(l) == 0 {
				break
			}
			want = behind(want, l[(p%len(l)+len(l))%len(l)])
		}
		x, e := machine.Run(c, picks)
		if e != api.OK || !same(x, want) {
			t.Fatal(c, picks, x, e)
		}
		if !same(c, kept) || !slices.Equal(picks, keptPicks) {
			t.Fatal("an argument changed")
		}
	}
}

func TestHistoryKeepsRoom(t *testing.T) {
	c := made(t, 1, []api.Call{open(1)}, []api.Call{open(2)})
	c.History = make([]api.Event, 0, 10)
	a, _ := machine.Step(c, 0)
	b, _ := machine.Step(c, 1)
	if a.History[0].Client != 0 || b.History[0].Client != 1 {
		t.Error(a, b)
	}
}

func TestWrong(t *testing.T) {
	base := func() api.Clients { return made(t, 2, []api.Call{open(1)}, []api.Call{open(2), open(3)}) }
	for i, change := range []func(*api.Clients){
		func(c *api.Clients) {
			c.Calls, c.At, c.Told = make([][]api.Call, 5), make([]int, 5), make([]api.Reply, 5)
		},
		func(c *api.Clients) { c.Calls[0] = slices.Repeat([]api.Call{open(1)}, 7) },
		func(c *api.Clients) { c.Stripes, c.Held = 0, nil },
		func(c *api.Clients) { c.Stripes, c.Held = 17, slices.Repeat([]int{-1}, 17) },
		func(c *api.Clients) { c.Stripes = -1 },
		func(c *api.Clients) { c.Stripes = 1 },
		func(c *api.Clients) { c.Stripes = 3 },
		func(c *api.Clients) { c.Held = nil },
		func(c *api.Clients) { c.At = c.At[:1] },
		func(c *api.Clients) { c.At = append(c.At, 0) },
		func(c *api.Clients) { c.Told = nil },
		func(c *api.Clients) { c.Told = append(c.Told, api.Reply{}) },
		func(c *api.Clients) { c.At[0] = -1 },
		func(c *api.Clients) { c.At[0] = 6 },
		func(c *api.Clients) { c.At[1] = 11 },
		func(c *api.Clients) { c.At[1] = math.MaxInt },
		func(c *api.Clients) { c.At[1] = math.MinInt },
		func(c *api.Clients) { c.Held[0] = -2 },
		func(c *api.Clients) { c.Held[1] = 2 },
		func(c *api.Clients) { c.Held[1] = math.MaxInt },
		func(c *api.Clients) { *c = api.Clients{} },
	} {
		c := base()
		change(&c)
		if l, e := machine.Enabled(c); e != api.ErrArg || len(l) != 0 {
			t.Error(i, l, e)
		}
		for _, client := range []int{0, -1, 9} {
			if x, e := machine.Step(c, client); e != api.ErrArg || !isZero(x) {
				t.Error(i, x, e)
			}
		}
		for _, picks := range [][]int{nil, {0, 1}} {
			if x, e := machine.Run(c, picks); e != api.ErrArg || !isZero(x) {
				t.Error(i, x, e)
			}
		}
		if ok, e := machine.Done(c); e != api.ErrArg || ok {
			t.Error(i, ok, e)
		}
	}
}

// Clients of the right shape that no calls made are gone on with just so.
func TestStrangeClients(t *testing.T) {
	c := made(t, 1, []api.Call{open(1), call(api.CProgress, 1)}, nil)
	c.Receiver.Objects = []api.Object{{Id: 9}}
	c.At[0] = 3
	c.Held[0] = 1
	c.Told[0] = api.Reply{Why: api.ErrFull, N: 77, Blocks: []string{"x"}}
	c.History = make([]api.Event, 60)
	want := c
	for range 7 {
		var e api.Errno
		c, e = machine.Step(c, 0)
		want = behind(want, 0)
		if e != api.OK || !same(c, want) {
			t.Fatal(c, want, e)
		}
	}
	if len(c.History) != 63 || c.History[60].Reply.N != 77 || c.Told[0].Why != api.ErrArg || c.Held[0] != -1 {
		t.Error(c)
	}
}

func TestOrderOfEvents(t *testing.T) {
	r := seed{3}
	for range 100 {
		calls := r.calls()
		c, _ := machine.Run(made(t, 1+r.Below(3), calls...), r.picks(130))
		if ok, e := machine.Done(c); e != api.OK || !ok {
			t.Fatal("not done", ok, e)
		}
		for i, l := range calls {
			var own []api.Event
			for _, e := range c.History {
				if e.Client == i {
					own = append(own, e)
				}
			}
			if len(own) != 2*len(l) {
				t.Fatal(i, own)
			}
			for j, e := range own {
				if e.N != j/2 || e.Back != j%2 || e.Call != l[j/2] {
					t.Fatal(i, j, e)
				}
			}
		}
	}
}
