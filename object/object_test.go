package object_test

import (
	"math"
	"slices"
	"testing"

	"downpour/api"
	"downpour/encode"
	"downpour/equations"
	"downpour/object"
	"downpour/sample"
	"downpour/solve"
)

func open(id uint64, k, size, cap int) api.Call {
	return api.Call{What: api.COpen, Object: id, K: k, Size: size, Cap: cap}
}

func add(x api.Symbol) api.Call { return api.Call{What: api.CAdd, Symbol: x} }

func call(what int) api.Call { return api.Call{What: what} }

func same(a, b api.Object) bool {
	return a.Id == b.Id && a.Closed == b.Closed && a.Store.K == b.Store.K && a.Store.Size == b.Store.Size && a.Store.Cap == b.Store.Cap && slices.Equal(a.Store.Symbols, b.Store.Symbols)
}

func copyOf(o api.Object) api.Object {
	o.Store.Symbols = slices.Clone(o.Store.Symbols)
	return o
}

func told(r api.Reply, why api.Errno, n int, blocks ...string) bool {
	return r.Why == why && r.N == n && slices.Equal(r.Blocks, blocks)
}

// filled is an open object with the symbols of ids 0 on, of blocks.
func filled(source []string, many, cap int) api.Object {
	o, _ := object.Open(open(7, len(source), len(source[0]), cap))
	for id := range uint64(many) {
		x, _ := encode.Make(source, id)
		o.Store.Symbols = append(o.Store.Symbols, x)
	}
	return o
}

func closed(o api.Object) api.Object {
	o.Closed = 1
	return o
}

// bad may not be, each for one fault alone.
func bad() []api.Object {
	good := filled([]string{"a", "b"}, 2, 5)
	twice := copyOf(good)
	twice.Store.Symbols[1].Id = twice.Store.Symbols[0].Id
	over := copyOf(good)
	over.Store.Cap = 1
	two, minus := good, good
	two.Closed, minus.Closed = 2, -1
	return []api.Object{{}, {Closed: 1}, twice, over, two, minus}
}

func TestOpen(t *testing.T) {
	for _, c := range []api.Call{open(0, 1, 0, 1), open(math.MaxUint64, 64, 64, 64), open(5, 3, 2, 9), {Object: 8, K: 4, Cap: 2, Symbol: api.Symbol{Id: 3, Data: "whatever"}}} {
		o, r := object.Open(c)
		want := api.Object{Id: c.Object, Store: api.Store{K: c.K, Size: c.Size, Cap: c.Cap}}
		if !same(o, want) || !told(r, api.OK, c.K) || !object.Right(o) {
			t.Error(c, o, r)
		}
	}
	for _, c := range []api.Call{open(1, 0, 1, 1), open(1, 65, 1, 1), open(1, 1, -1, 1), open(1, 1, 65, 1), open(1, 1, 1, 0), open(1, 1, 1, 65), open(1, math.MinInt, math.MaxInt, 0)} {
		if o, r := object.Open(c); !same(o, api.Object{}) || !told(r, api.ErrSize, 0) {
			t.Error(c, o, r)
		}
		for _, what := range []int{-1, 1, 2, 3, 4, 5, math.MinInt, math.MaxInt} {
			c.What = what
			if o, r := object.Open(c); !same(o, api.Object{}) || !told(r, api.ErrArg, 0) {
				t.Error(c, o, r)
			}
		}
	}
	if o, r := object.Open(api.Call{What: api.CAdd, K: 1, Size: 1, Cap: 1}); !same(o, api.Object{}) || !told(r, api.ErrArg, 0) {
		t.Error(o, r)
	}
}

func TestRight(t *testing.T) {
	source := []string{"a", "b", "c"}
	for i, o := range []api.Object{filled(source, 0, 1), filled(source, 5, 5), closed(filled(source, 5, 64)), filled([]string{""}, 0, 1)} {
		if !object.Right(o) {
			t.Error(i)
		}
	}
	for i, o := range bad() {
		if object.Right(o) {
			t.Error(i)
		}
	}
}

func TestLike(t *testing.T) {
	o := filled([]string{"a", "b"}, 3, 5)
	for i, x := range append(bad(), o, closed(o)) {
		if !object.Like(x, copyOf(x)) {
			t.Error(i)
		}
	}
	id, store, symbol, fewer := copyOf(o), copyOf(o), copyOf(o), copyOf(o)
	id.Id++
	store.Store.Cap++
	symbol.Store.Symbols[1].Data = "x"
	fewer.Store.Symbols = fewer.Store.Symbols[:2]
	for i, x := range []api.Object{closed(o), id, store, symbol, fewer, {}} {
		if object.Like(o, x) || object.Like(x, o) {
			t.Error(i)
		}
	}
}

func TestAdd(t *testing.T) {
	s := sample.Seed(1)
	for range 20 {
		k, n := 1+s.Below(20), s.Below(10)
		source := s.Blocks(k, n)
		o, _ := object.Open(open(3, k, n, 64))
		for id := range uint64(64) {
			x, _ := encode.Make(source, id*17)
			c := add(x)
			c.Object, c.K, c.Size, c.Cap = 999, -5, 77, 0
			kept := copyOf(o)
			next, r := object.Do(o, c)
			want, _ := equations.Add(kept.Store, x)
			rank, _ := solve.Progress(want)
			if !same(next, api.Object{Id: 3, Store: want}) || !told(r, api.OK, rank) {
				t.Fatal(k, id, next, r)
			}
			if !same(o, kept) {
				t.Fatal("the object changed")
			}
			o = next
		}
	}
}

func TestAddWrong(t *testing.T) {
	o := filled([]string{"ab", "cd"}, 3, 3)
	room := filled([]string{"ab", "cd"}, 3, 4)
	for i, c := range []struct {
		o    api.Object
		x    api.Symbol
		want api.Errno
	}{
		{room, api.Symbol{Id: 9, Data: "a"}, api.ErrSize},
		{room, api.Symbol{Id: 1, Data: "abc"}, api.ErrSize},
		{room, api.Symbol{Id: 1, Data: "ab"}, api.ErrOld},
		{o, api.Symbol{Id: 1, Data: "ab"}, api.ErrOld},
		{o, api.Symbol{Id: 9, Data: "ab"}, api.ErrFull},
		{closed(room), api.Symbol{Id: 9, Data: "ab"}, api.ErrNoObject},
		{closed(o), api.Symbol{Id: 1, Data: "a"}, api.ErrNoObject},
	} {
		kept := copyOf(c.o)
		if next, r := object.Do(c.o, add(c.x)); !same(next, kept) || !told(r, c.want, 0) {
			t.Error(i, next, r)
		}
	}
}

func TestProgressAndResult(t *testing.T) {
	s := sample.Seed(2)
	source := s.Blocks(10, 5)
	ready := false
	for many := range 40 {
		o := filled(source, many, 64)
		kept := copyOf(o)
		rank, _ := solve.Progress(o.Store)
		if next, r := object.Do(o, call(api.CProgress)); !same(next, kept) || !told(r, api.OK, rank) {
			t.Fatal(many, r)
		}
		next, r := object.Do(o, call(api.CResult))
		if !same(next, kept) {
			t.Fatal(many, next)
		}
		if rank < 10 && !told(r, api.ErrNotReady, 0) || rank == 10 && !told(r, api.OK, 10, source...) {
			t.Fatal(many, rank, r)
		}
		if ready && r.Why != api.OK {
			t.Fatal("a result is told no more", many)
		}
		ready = r.Why == api.OK
	}
	if !ready {
		t.Error("no result")
	}
}

func TestInconsistent(t *testing.T) {
	o, _ := object.Open(open(1, 1, 1, 5))
	o, r := object.Do(o, add(api.Symbol{Id: 1, Data: "a"}))
	if !told(r, api.OK, 1) {
		t.Error(r)
	}
	o, r = object.Do(o, add(api.Symbol{Id: 2, Data: "b"}))
	if !told(r, api.OK, 1) {
		t.Error(r)
	}
	kept := copyOf(o)
	if next, r := object.Do(o, call(api.CResult)); !same(next, kept) || !told(r, api.ErrInconsistent, 0) {
		t.Error(next, r)
	}
}

func TestClose(t *testing.T) {
	for _, many := range []int{0, 1, 7, 64} {
		o := filled([]string{"a", "b", "c"}, many, 64)
		next, r := object.Do(o, call(api.CClose))
		if !same(next, closed(o)) || !told(r, api.OK, many) || o.Closed != 0 {
			t.Error(many, next, r)
		}
		for _, what := range []int{api.CAdd, api.CProgress, api.CResult, api.CClose} {
			if again, r := object.Do(next, call(what)); !same(again, next) || !told(r, api.ErrNoObject, 0) {
				t.Error(many, what, again, r)
			}
		}
		for _, o := range []api.Object{o, next} {
			if again, r := object.Do(o, open(7, 3, 1, 9)); !same(again, o) || !told(r, api.ErrState, 0) {
				t.Error(many, again, r)
			}
			if again, r := object.Do(o, open(7, -1, 0, 0)); !same(again, o) || !told(r, api.ErrState, 0) {
				t.Error(many, again, r)
			}
		}
	}
}

func TestWrong(t *testing.T) {
	for i, o := range bad() {
		for what := -1; what <= api.Calls; what++ {
			kept := copyOf(o)
			if next, r := object.Do(o, call(what)); !same(next, kept) || !told(r, api.ErrArg, 0) {
				t.Error(i, what, next, r)
			}
		}
	}
	for _, o := range []api.Object{filled([]string{"a"}, 1, 2), closed(filled([]string{"a"}, 1, 2))} {
		for _, what := range []int{-1, 5, 6, math.MinInt, math.MaxInt} {
			if next, r := object.Do(o, call(what)); !same(next, o) || !told(r, api.ErrArg, 0) {
				t.Error(what, next, r)
			}
		}
	}
}

func TestProgressNeverFalls(t *testing.T) {
	s := sample.Seed(3)
	for range 30 {
		k := 1 + s.Below(12)
		source := s.Blocks(k, 2)
		o, _ := object.Open(open(1, k, 2, 1+s.Below(64)))
		last, done := 0, false
		for range 100 {
			x, _ := encode.Make(source, uint64(s.Below(40)))
			var r api.Reply
			o, _ = object.Do(o, add(x))
			o, r = object.Do(o, call(api.CProgress))
			if r.N < last || r.N > k || len(o.Store.Symbols) > o.Store.Cap {
				t.Fatal(r, last, k)
			}
			last = r.N
			o, r = object.Do(o, call(api.CResult))
			if r.Why == api.OK && (last != k || !slices.Equal(r.Blocks, source)) || done && r.Why != api.OK {
				t.Fatal(r, last, k)
			}
			done = r.Why == api.OK
		}
	}
}
