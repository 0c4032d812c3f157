package receiver_test

import (
	"math"
	"slices"
	"testing"

	"downpour/api"
	"downpour/datagram"
	"downpour/encode"
	"downpour/equations"
	"downpour/object"
	"downpour/receiver"
	"downpour/sample"
)

var source = []string{"ab", "cd", "ef"}

func symbol(id uint64) api.Symbol {
	x, _ := encode.Make(source, id)
	return x
}

// obj is an open object of source, with symbols of ids 0 on.
func obj(id uint64, many, cap int) api.Object {
	o := api.Object{Id: id, Store: api.Store{K: 3, Size: 2, Cap: cap}}
	for i := range uint64(many) {
		o.Store.Symbols = append(o.Store.Symbols, symbol(i))
	}
	return o
}

func closed(o api.Object) api.Object {
	o.Closed = 1
	return o
}

func of(l ...api.Object) api.Receiver { return api.Receiver{Objects: l} }

func call(what int, id uint64) api.Call { return api.Call{What: what, Object: id} }

func add(id uint64, x api.Symbol) api.Call {
	return api.Call{What: api.CAdd, Object: id, Symbol: x}
}

func open(id uint64) api.Call {
	return api.Call{What: api.COpen, Object: id, K: 3, Size: 2, Cap: 9}
}

func put(id uint64, k, size int, x api.Symbol) string {
	s, _ := datagram.Put(api.Datagram{Object: id, K: k, Size: size, Symbol: x})
	return s
}

func sameObject(a, b api.Object) bool {
	return a.Id == b.Id && a.Closed == b.Closed && a.Store.K == b.Store.K && a.Store.Size == b.Store.Size && a.Store.Cap == b.Store.Cap && slices.Equal(a.Store.Symbols, b.Store.Symbols)
}

func same(a, b api.Receiver) bool { return slices.EqualFunc(a.Objects, b.Objects, sameObject) }

func copyOf(r api.Receiver) api.Receiver {
	r.Objects = slices.Clone(r.Objects)
	for i := range r.Objects {
		r.Objects[i].Store.Symbols = slices.Clone(r.Objects[i].Store.Symbols)
	}
	return r
}

func told(r api.Reply, why api.Errno, n int, blocks ...string) bool {
	return r.Why == why && r.N == n && slices.Equal(r.Blocks, blocks)
}

func sameReply(a, b api.Reply) bool { return told(a, b.Why, b.N, b.Blocks...) }

func full() api.Receiver {
	var r api.Receiver
	for i := range uint64(8) {
		r.Objects = append(r.Objects, obj(10*i+5, int(i), 20))
	}
	return r
}

// bad may not be, each for one fault alone.
func bad() []api.Receiver {
	nine := full()
	nine.Objects = append(nine.Objects, obj(1000, 0, 1))
	twice := obj(4, 2, 5)
	twice.Store.Symbols[1].Id = twice.Store.Symbols[0].Id
	half := obj(4, 2, 5)
	half.Closed = 2
	return []api.Receiver{
		nine,
		of(api.Object{}),
		of(twice),
		of(half),
		of(obj(1, 0, 1), half),
		of(obj(1, 2, 1)),
		of(obj(2, 0, 1), obj(1, 0, 1)),
		of(obj(1, 0, 1), obj(1, 0, 1)),
		of(obj(1, 0, 1), obj(5, 0, 1), obj(3, 0, 1)),
		of(obj(1, 0, 1), closed(obj(1, 0, 1))),
	}
}

func good() []api.Receiver {
	return []api.Receiver{{}, of(obj(0, 0, 1)), of(closed(obj(math.MaxUint64, 5, 5))), of(obj(0, 1, 5), closed(obj(1, 2, 5)), obj(math.MaxUint64, 3, 5)), full()}
}

func TestRight(t *testing.T) {
	for i, r := range good() {
		if !receiver.Right(r) {
			t.Error(i)
		}
	}
	for i, r := range bad() {
		if receiver.Right(r) {
			t.Error(i)
		}
	}
}

func TestLike(t *testing.T) {
	for i, r := range append(good(), bad()...) {
		if !receiver.Like(r, copyOf(r)) {
			t.Error(i)
		}
	}
	r := of(obj(1, 2, 5), obj(2, 2, 5))
	data := copyOf(r)
	data.Objects[1].Store.Symbols[0].Data = "xx"
	for i, o := range []api.Receiver{{}, of(obj(1, 2, 5)), of(obj(1, 2, 5), obj(3, 2, 5)), of(obj(1, 2, 5), obj(2, 1, 5)), of(obj(1, 2, 5), closed(obj(2, 2, 5))), of(obj(1, 2, 5), obj(2, 2, 5), obj(3, 2, 5)), data} {
		if receiver.Like(r, o) || receiver.Like(o, r) {
			t.Error(i)
		}
	}
}

func TestBytes(t *testing.T) {
	for i, r := range good() {
		want := 0
		for _, o := range r.Objects {
			if n, _ := equations.Bytes(o.Store); o.Closed == 0 {
				want += n
			}
		}
		if n, e := receiver.Bytes(r); e != api.OK || n != want {
			t.Error(i, n, e)
		}
	}
	if n, e := receiver.Bytes(of(obj(1, 2, 5), closed(obj(2, 3, 5)), obj(3, 4, 5))); e != api.OK || n != 18 {
		t.Error(n, e)
	}
	for i, r := range bad() {
		if n, e := receiver.Bytes(r); e != api.ErrArg || n != 0 {
			t.Error(i, n, e)
		}
	}
}

func TestOpen(t *testing.T) {
	r := of(obj(5, 1, 9), closed(obj(10, 2, 9)), obj(20, 3, 9))
	fresh := func(id uint64) api.Object { return obj(id, 0, 9) }
	for _, c := range []struct {
		id   uint64
		want api.Receiver
	}{
		{0, of(fresh(0), r.Objects[0], r.Objects[1], r.Objects[2])},
		{7, of(r.Objects[0], fresh(7), r.Objects[1], r.Objects[2])},
		{15, of(r.Objects[0], r.Objects[1], fresh(15), r.Objects[2])},
		{math.MaxUint64, of(r.Objects[0], r.Objects[1], r.Objects[2], fresh(math.MaxUint64))},
	} {
		kept := copyOf(r)
		if next, reply := receiver.Do(r, open(c.id)); !same(next, c.want) || !told(reply, api.OK, 3) {
			t.Error(c.id, next, reply)
		}
		if !same(r, kept) {
			t.Error("the receiver changed", c.id)
		}
	}
	if next, reply := receiver.Do(api.Receiver{}, open(1)); !same(next, of(fresh(1))) || !told(reply, api.OK, 3) {
		t.Error(next, reply)
	}
}

func TestOpenWrong(t *testing.T) {
	wrong := open(7)
	wrong.K = 65
	old := wrong
	old.Object = 5
	r := of(obj(5, 1, 9), closed(obj(10, 2, 9)))
	for i, c := range []struct {
		r    api.Receiver
		c    api.Call
		want api.Errno
	}{
		{r, open(5), api.ErrOld},
		{r, open(10), api.ErrOld},
		{r, old, api.ErrOld},
		{r, wrong, api.ErrSize},
		{full(), open(5), api.ErrOld},
		{full(), open(75), api.ErrOld},
		{full(), open(6), api.ErrFull},
		{full(), wrong, api.ErrFull},
	} {
		if next, reply := receiver.Do(c.r, c.c); !same(next, c.r) || !told(reply, c.want, 0) {
			t.Error(i, next, reply)
		}
	}
}

// Objects with room behind their list are not written into.
func TestOpenKeepsRoom(t *testing.T) {
	room := make([]api.Object, 2, 8)
	room[0], room[1] = obj(1, 0, 9), obj(5, 0, 9)
	r := api.Receiver{Objects: room}
	a, _ := receiver.Do(r, open(3))
	b, _ := receiver.Do(r, open(9))
	if !same(a, of(obj(1, 0, 9), obj(3, 0, 9), obj(5, 0, 9))) || !same(b, of(obj(1, 0, 9), obj(5, 0, 9), obj(9, 0, 9))) || !same(r, of(obj(1, 0, 9), obj(5, 0, 9))) {
		t.Error(a, b, r)
	}
}

func TestCalls(t *testing.T) {
	r := of(obj(5, 1, 2), closed(obj(10, 2, 9)), obj(20, 30, 64), obj(30, 2, 2))
	for _, id := range []uint64{5, 10, 20, 30, 6, 0, math.MaxUint64} {
		for what := 1; what < api.Calls; what++ {
			for _, x := range []api.Symbol{symbol(0), symbol(99), {Id: 99, Data: "a"}} {
				c := call(what, id)
				c.Symbol = x
				kept := copyOf(r)
				next, reply := receiver.Do(r, c)
				want, wantReply := copyOf(r), api.Reply{Why: api.ErrNoObject}
				for i, o := range r.Objects {
					if o.Id == id {
						want.Objects[i], wantReply = object.Do(o, c)
					}
				}
				if !same(next, want) || !sameReply(reply, wantReply) || !receiver.Right(next) {
					t.Error(id, what, next, reply)
				}
				if !same(r, kept) {
					t.Error("the receiver changed", id, what)
				}
			}
		}
	}
	if _, reply := receiver.Do(r, call(api.CResult, 20)); !told(reply, api.OK, 3, source...) {
		t.Error(reply)
	}
	if next, reply := receiver.Do(r, call(api.CClose, 20)); !told(reply, api.OK, 30) || next.Objects[2].Closed != 1 {
		t.Error(next, reply)
	}
	if next, reply := receiver.Do(r, add(5, symbol(7))); !told(reply, api.OK, reply.N) || len(next.Objects[0].Store.Symbols) != 2 {
		t.Error(next, reply)
	}
}

func TestDoWrong(t *testing.T) {
	for i, r := range bad() {
		kept := copyOf(r)
		for what := -1; what <= api.Calls; what++ {
			for _, id := range []uint64{1, 4, 77} {
				if next, reply := receiver.Do(r, call(what, id)); !same(next, kept) || !told(reply, api.ErrArg, 0) {
					t.Error(i, what, next, reply)
				}
			}
		}
		for _, s := range []string{"", put(1, 3, 2, symbol(9)), put(5, 3, 2, symbol(9))} {
			if next, reply := receiver.Take(r, s); !same(next, kept) || !told(reply, api.ErrArg, 0) {
				t.Error(i, next, reply)
			}
		}
	}
	for i, r := range good() {
		for _, what := range []int{-1, 5, math.MinInt, math.MaxInt} {
			for _, id := range []uint64{0, 5, 77} {
				if next, reply := receiver.Do(r, call(what, id)); !same(next, r) || !told(reply, api.ErrArg, 0) {
					t.Error(i, what, next, reply)
				}
			}
		}
	}
}

func TestTake(t *testing.T) {
	r := of(obj(5, 1, 9), closed(obj(10, 2, 9)), obj(20, 3, 3))
	for i, c := range []struct {
		s    string
		want api.Errno
	}{
		{"", api.ErrMalformed},
		{"D", api.ErrMalformed},
		{put(5, 3, 2, symbol(7)) + "x", api.ErrMalformed},
		{put(6, 3, 2, symbol(7)), api.ErrNoObject},
		{put(10, 3, 2, symbol(7)), api.ErrNoObject},
		{put(10, 4, 2, symbol(7)), api.ErrNoObject},
		{put(5, 2, 2, symbol(7)), api.ErrSize},
		{put(5, 4, 2, symbol(0)), api.ErrSize},
		{put(5, 3, 1, api.Symbol{Id: 7, Data: "a"}), api.ErrSize},
		{put(5, 3, 3, api.Symbol{Id: 0, Data: "abc"}), api.ErrSize},
		{put(5, 3, 2, symbol(0)), api.ErrOld},
		{put(20, 3, 2, symbol(1)), api.ErrOld},
		{put(20, 3, 2, symbol(50)), api.ErrFull},
	} {
		kept := copyOf(r)
		if next, reply := receiver.Take(r, c.s); !same(next, kept) || !told(reply, c.want, 0) {
			t.Error(i, next, reply)
		}
	}
	next, reply := receiver.Take(r, put(5, 3, 2, symbol(7)))
	want, wantReply := receiver.Do(r, add(5, symbol(7)))
	if !same(next, want) || !sameReply(reply, wantReply) || reply.Why != api.OK || len(next.Objects[0].Store.Symbols) != 2 || len(r.Objects[0].Store.Symbols) != 1 {
		t.Error(next, reply)
	}
}

func TestTakeChanged(t *testing.T) {
	r := of(obj(5, 1, 9))
	s := put(5, 3, 2, symbol(7))
	for i := range 8 * len(s) {
		b := []byte(s)
		b[i/8] ^= 1 << (i % 8)
		if next, reply := receiver.Take(r, string(b)); !same(next, r) || !told(reply, api.ErrMalformed, 0) {
			t.Error(i, next, reply)
		}
	}
}

func TestApart(t *testing.T) {
	s := sample.Seed(1)
	var r api.Receiver
	for range 3000 {
		id := uint64(s.Below(10))
		var next api.Receiver
		if s.Below(3) == 0 {
			next, _ = receiver.Take(r, put(id, 3, 2, symbol(uint64(s.Below(20)))))
		} else {
			c := open(id)
			c.What, c.Symbol = s.Below(5), symbol(uint64(s.Below(20)))
			if c.What == api.CClose && s.Below(10) > 0 {
				c.What = api.CResult
			}
			next, _ = receiver.Do(r, c)
		}
		if !receiver.Right(next) {
			t.Fatal(next)
		}
		others := func(r api.Receiver) []api.Object {
			return slices.DeleteFunc(slices.Clone(r.Objects), func(o api.Object) bool { return o.Id == id })
		}
		if !same(of(others(r)...), of(others(next)...)) {
			t.Fatal("another object changed", id)
		}
		r = next
		if len(r.Objects) == 8 && s.Below(200) == 0 {
			r = api.Receiver{}
		}
	}
}
