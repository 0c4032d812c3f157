// Package whole holds the document's ten examples of the whole, and its promises that no layer holds alone.
package whole

import (
	"slices"
	"testing"

	"downpour/api"
	"downpour/backsub"
	"downpour/datagram"
	"downpour/encode"
	"downpour/equations"
	"downpour/flow"
	"downpour/inactive"
	"downpour/linear"
	"downpour/machine"
	"downpour/neighbours"
	"downpour/peel"
	"downpour/receiver"
	"downpour/reduce"
	"downpour/sample"
	"downpour/sched"
	"downpour/solve"
)

func call(what int, id uint64) api.Call { return api.Call{What: what, Object: id} }

func opened(t *testing.T, id uint64, k, size, cap int) api.Receiver {
	t.Helper()
	r, reply := receiver.Do(api.Receiver{}, api.Call{What: api.COpen, Object: id, K: k, Size: size, Cap: cap})
	if reply.Why != api.OK {
		t.Fatal(reply)
	}
	return r
}

func sent(t *testing.T, id uint64, blocks []string, ids ...uint64) []string {
	t.Helper()
	l, e := flow.Send(id, blocks, ids)
	if e != api.OK {
		t.Fatal(e)
	}
	return l
}

// Example 1: one block: any symbol of it is the block.
func TestOneBlock(t *testing.T) {
	for id := range uint64(20) {
		if x, e := encode.Make([]string{"the block"}, id*id*12345); e != api.OK || x.Data != "the block" {
			t.Error(id, x, e)
		}
		r := opened(t, 1, 1, 9, 1)
		r, _ = receiver.Take(r, sent(t, 1, []string{"the block"}, id)[0])
		if _, reply := receiver.Do(r, call(api.CResult, 1)); reply.Why != api.OK || !slices.Equal(reply.Blocks, []string{"the block"}) {
			t.Error(id, reply)
		}
	}
}

// Example 2: three blocks, symbols that have rank 2: ErrNotReady.
func TestRankTwo(t *testing.T) {
	blocks := []string{"a", "b", "c"}
	r := opened(t, 1, 3, 1, 64)
	rank := 0
	for id := uint64(0); rank < 2; id++ {
		var reply api.Reply
		r, reply = receiver.Take(r, sent(t, 1, blocks, id)[0])
		rank = reply.N
	}
	if _, reply := receiver.Do(r, call(api.CResult, 1)); reply.Why != api.ErrNotReady || len(reply.Blocks) != 0 {
		t.Error(reply)
	}
}

// Examples 3 and 4: the same symbol twice: ErrOld; one more than the cap: ErrFull; nothing changes.
func TestTwiceAndOneMore(t *testing.T) {
	l := sent(t, 1, []string{"a", "b", "c"}, 5, 6, 7)
	r := opened(t, 1, 3, 1, 2)
	r, _ = receiver.Take(r, l[0])
	if next, reply := receiver.Take(r, l[0]); reply.Why != api.ErrOld || !receiver.Like(next, r) {
		t.Error(next, reply)
	}
	r, _ = receiver.Take(r, l[1])
	if next, reply := receiver.Take(r, l[2]); reply.Why != api.ErrFull || !receiver.Like(next, r) {
		t.Error(next, reply)
	}
}

// Example 5: one bit of a datagram changed: ErrMalformed.
func TestOneBitChanged(t *testing.T) {
	s := sent(t, 1, []string{"abc", "def"}, 5)[0]
	for i := range 8 * len(s) {
		b := []byte(s)
		b[i/8] ^= 1 << (i % 8)
		if _, e := datagram.Get(string(b)); e != api.ErrMalformed {
			t.Error(i, e)
		}
	}
}

// Example 6: a datagram of an object that is closed: ErrNoObject.
func TestClosedObject(t *testing.T) {
	r, _ := receiver.Do(opened(t, 1, 2, 1, 9), call(api.CClose, 1))
	if next, reply := receiver.Take(r, sent(t, 1, []string{"a", "b"}, 5)[0]); reply.Why != api.ErrNoObject || !receiver.Like(next, r) {
		t.Error(next, reply)
	}
}

// Example 7: three symbols in a ring: peeling tells none; one column is inactive.
func TestRing(t *testing.T) {
	ring := sample.Matrix(3, "110", "011", "101")
	var rows []api.Equation
	for _, r := range ring.Rows {
		rows = append(rows, api.Equation{Row: r, Sum: "\x00"})
	}
	if p, e := peel.Peel(3, rows); e != api.OK || len(p.At) != 0 || len(p.Left) != 3 {
		t.Error(p, e)
	}
	if p, e := inactive.Make(ring); e != api.OK || len(p.Inactive) != 1 {
		t.Error(p, e)
	}
}

// Example 8: two clients, who lock 0 and 1, and 1 and 0, stand still; in rising order they never do.
func TestLocks(t *testing.T) {
	lock := func(a int) api.Instr { return api.Instr{Op: api.ILock, A: a} }
	unlock := func(a int) api.Instr { return api.Instr{Op: api.IUnlock, A: a} }
	rising := []api.Instr{lock(0), lock(1), unlock(1), unlock(0)}
	crossed, _ := sched.New([][]api.Instr{rising, {lock(1), lock(0), unlock(0), unlock(1)}})
	s, _, _ := sched.Run(crossed, []int{0, 1, 0, 0})
	if l, e := sched.Enabled(s); e != api.OK || len(l) != 0 {
		t.Error(l, e)
	}
	both, _ := sched.New([][]api.Instr{rising, rising})
	for bits := range 256 {
		var picks []int
		for i := range 8 {
			picks = append(picks, bits>>i&1)
		}
		s, _, _ := sched.Run(both, picks)
		if done, e := sched.Done(s); e != api.OK || !done {
			t.Error(bits, done, e)
		}
	}
}

// Example 9: a client who asks while another one opens is told either that there is none, or its progress; both have an order.
func TestAsksWhileAnotherOpens(t *testing.T) {
	open := api.Call{What: api.COpen, Object: 1, K: 2, Size: 1, Cap: 9}
	seen := map[api.Errno]int{}
	for bits := range 1024 {
		c, _ := machine.New([][]api.Call{{open}, {call(api.CProgress, 1)}}, 3)
		var picks []int
		for i := range 10 {
			picks = append(picks, bits>>i&1)
		}
		c, _ = machine.Run(c, picks)
		if done, e := machine.Done(c); e != api.OK || !done {
			t.Fatal(bits, done, e)
		}
		seen[c.Told[1].Why]++
		order, e := linear.Order(c.History)
		if ok, f := linear.Accepts(c.History, order); e != api.OK || f != api.OK || !ok {
			t.Fatal(bits, order, e, f)
		}
	}
	if len(seen) != 2 || seen[api.OK] == 0 || seen[api.ErrNoObject] == 0 {
		t.Error(seen)
	}
}

// Example 10: ten blocks, sixty-four symbols, in any order: the blocks.
func TestTenBlocks(t *testing.T) {
	s := sample.Seed(1)
	blocks := s.Blocks(10, 16)
	var ids []uint64
	for i := range uint64(64) {
		ids = append(ids, 1000+i)
	}
	for range 10 {
		for i := range ids {
			j := s.Below(len(ids))
			ids[i], ids[j] = ids[j], ids[i]
		}
		r, tally, e := flow.Feed(opened(t, 1, 10, 16, 64), sent(t, 1, blocks, ids...))
		if e != api.OK || tally != (api.Tally{Taken: 64}) {
			t.Fatal(tally, e)
		}
		if _, reply := receiver.Do(r, call(api.CResult, 1)); reply.Why != api.OK || reply.N != 10 || !slices.Equal(reply.Blocks, blocks) {
			t.Fatal(reply)
		}
	}
}

// P2 and P6: no other blocks are ever told, and these are, just if the rows have rank K; progress never falls.
func TestRightAndNeverLess(t *testing.T) {
	s := sample.Seed(2)
	for range 40 {
		k := 1 + s.Below(16)
		blocks := s.Blocks(k, 3)
		r := opened(t, 1, k, 3, 1+s.Below(64))
		last := 0
		var taken []uint64
		for range 64 {
			id := uint64(s.Below(100))
			var reply api.Reply
			r, reply = receiver.Take(r, sent(t, 1, blocks, id)[0])
			if reply.Why == api.OK {
				taken = append(taken, id)
			}
			m, _ := neighbours.Rows(k, taken)
			rank, _ := reduce.Rank(m)
			_, progress := receiver.Do(r, call(api.CProgress, 1))
			_, result := receiver.Do(r, call(api.CResult, 1))
			if progress.N != rank || rank < last || rank > k {
				t.Fatal(progress, rank, last)
			}
			if rank == k && !slices.Equal(result.Blocks, blocks) || rank < k && result.Why != api.ErrNotReady {
				t.Fatal(k, rank, result)
			}
			last = rank
		}
	}
}

// The layers that solve tell the same of one store.
func TestLayersAgree(t *testing.T) {
	s := sample.Seed(3)
	for range 60 {
		k := 1 + s.Below(20)
		blocks := s.Blocks(k, 2)
		store, _ := equations.New(k, 2, 64)
		for range s.Below(40) {
			x, _ := encode.Make(blocks, uint64(s.Below(500)))
			if next, e := equations.Add(store, x); e == api.OK {
				store = next
			}
		}
		m, _ := equations.Rows(store)
		sums, _ := equations.Sums(store)
		at, known, e := backsub.Known(m, 2, sums)
		if e != api.OK {
			t.Fatal(e)
		}
		rows, _ := peel.Of(store)
		p, _ := peel.Peel(k, rows)
		for i, c := range p.At {
			if j := slices.Index(at, c); j < 0 || known[j] != p.Told[i] || known[j] != blocks[c] {
				t.Fatal("peeled, but not known", c)
			}
		}
		columns, core, coreSums, _ := solve.Core(m, 2, sums)
		coreAt, coreKnown, e := backsub.Known(core, 2, coreSums)
		if e != api.OK {
			t.Fatal(e)
		}
		for i, c := range coreAt {
			if coreKnown[i] != blocks[columns[c]] {
				t.Fatal("the core tells another block", columns[c])
			}
		}
	}
}
