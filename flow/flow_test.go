package flow_test

import (
	"math"
	"slices"
	"strings"
	"testing"

	"downpour/api"
	"downpour/datagram"
	"downpour/encode"
	"downpour/flow"
	"downpour/neighbours"
	"downpour/receiver"
	"downpour/reduce"
	"downpour/sample"
)

// seed makes the inputs of these tests.
type seed struct{ sample.Seed }

func (s *seed) acts(many int) []api.Act {
	var l []api.Act
	for range many {
		l = append(l, api.Act{What: s.Below(4), At: s.Below(201) - 100, Bit: s.Below(2001) - 1000})
	}
	return l
}

func ids(from, many uint64) []uint64 {
	var l []uint64
	for i := range many {
		l = append(l, from+i)
	}
	return l
}

func act(what, at int) api.Act { return api.Act{What: what, At: at} }

func isZero(r api.Receiver, t api.Tally) bool { return len(r.Objects) == 0 && t == (api.Tally{}) }

// wrongBlocks may not be, each for one fault alone.
func wrongBlocks() [][]string {
	return [][]string{nil, make([]string, 65), {"a", ""}, {strings.Repeat("a", 65)}}
}

func TestSend(t *testing.T) {
	s := seed{1}
	for _, k := range []int{1, 3, 64} {
		for _, n := range []int{0, 1, 64} {
			for _, many := range []uint64{0, 1, 64} {
				blocks, numbers := s.Blocks(k, n), ids(math.MaxUint64-5, many)
				kept, keptIds := slices.Clone(blocks), slices.Clone(numbers)
				sent, e := flow.Send(1<<40+7, blocks, numbers)
				if e != api.OK || len(sent) != int(many) {
					t.Fatal(k, n, many, e)
				}
				for i, id := range numbers {
					x, _ := encode.Make(blocks, id)
					want, _ := datagram.Put(api.Datagram{Object: 1<<40 + 7, K: k, Size: n, Symbol: x})
					if sent[i] != want {
						t.Fatal(k, n, i)
					}
				}
				if !slices.Equal(blocks, kept) || !slices.Equal(numbers, keptIds) {
					t.Fatal("an argument changed")
				}
			}
		}
	}
	for i, blocks := range wrongBlocks() {
		for _, many := range []uint64{0, 1, 65} {
			if sent, e := flow.Send(1, blocks, ids(0, many)); e != api.ErrArg || len(sent) != 0 {
				t.Error(i, sent, e)
			}
		}
	}
	if sent, e := flow.Send(1, []string{"a"}, ids(0, 65)); e != api.ErrSize || len(sent) != 0 {
		t.Error(sent, e)
	}
}

// run is the tests' own, by the document's words.
func run(sent []string, acts []api.Act) (delivered, way []string) {
	way = slices.Clone(sent)
	spoilt := make([]bool, len(sent))
	for _, a := range acts {
		if len(way) == 0 {
			continue
		}
		i := a.At % len(way)
		if i < 0 {
			i += len(way)
		}
		if a.What == api.FDeliver || a.What == api.FTwice {
			delivered = append(delivered, way[i])
		}
		if a.What == api.FDeliver || a.What == api.FDrop {
			way, spoilt = slices.Delete(way, i, i+1), slices.Delete(spoilt, i, i+1)
		}
		if a.What == api.FSpoil && !spoilt[i] && way[i] != "" {
			bits := 8 * len(way[i])
			bit := a.Bit % bits
			if bit < 0 {
				bit += bits
			}
			b := []byte(way[i])
			b[bit/8] ^= 1 << (bit % 8)
			way[i], spoilt[i] = string(b), true
		}
	}
	return delivered, way
}

func TestRunExamples(t *testing.T) {
	sent := []string{"aa", "bb", "cc"}
	for i, c := range []struct {
		acts           []api.Act
		delivered, way []string
	}{
		{nil, nil, sent},
		{[]api.Act{act(api.FTwice, 0), act(api.FDeliver, 0)}, []string{"aa", "aa"}, []string{"bb", "cc"}},
		{[]api.Act{act(api.FDeliver, 1), act(api.FDeliver, 1), act(api.FDeliver, 1), act(api.FDeliver, 1)}, []string{"bb", "cc", "aa"}, nil},
		{[]api.Act{act(api.FDrop, -1), act(api.FDeliver, 5)}, []string{"bb"}, []string{"aa"}},
		{[]api.Act{act(api.FDrop, 3)}, nil, []string{"bb", "cc"}},
		{[]api.Act{{What: api.FSpoil, At: 2, Bit: 0}}, nil, []string{"aa", "bb", "bc"}},
		{[]api.Act{{What: api.FSpoil, At: 2, Bit: 9}}, nil, []string{"aa", "bb", "ca"}},
		{[]api.Act{{What: api.FSpoil, At: 2, Bit: 16}}, nil, []string{"aa", "bb", "bc"}},
		{[]api.Act{{What: api.FSpoil, At: 0, Bit: -1}}, nil, []string{"a\xe1", "bb", "cc"}},
		{[]api.Act{{What: api.FSpoil, At: 0, Bit: 1}, {What: api.FSpoil, At: 0, Bit: 1}, {What: api.FSpoil, At: 0, Bit: 5}}, nil, []string{"ca", "bb", "cc"}},
		{[]api.Act{{What: api.FSpoil, At: 0, Bit: 1}, act(api.FTwice, 0), {What: api.FSpoil, At: 0, Bit: 1}, act(api.FDeliver, 0)}, []string{"ca", "ca"}, []string{"bb", "cc"}},
		{[]api.Act{act(api.FTwice, 0), {What: api.FSpoil, At: 0, Bit: 1}, act(api.FTwice, 0)}, []string{"aa", "ca"}, []string{"ca", "bb", "cc"}},
		{[]api.Act{{What: api.FSpoil, At: 1, Bit: 1}, act(api.FDrop, 0), {What: api.FSpoil, At: 0, Bit: 1}, {What: api.FSpoil, At: 1, Bit: 0}}, nil, []string{"`b", "bc"}},
	} {
		delivered, way, e := flow.Run(sent, c.acts)
		if e != api.OK || !slices.Equal(delivered, c.delivered) || !slices.Equal(way, c.way) {
			t.Errorf("%d %q %q %d", i, delivered, way, e)
		}
		if !slices.Equal(sent, []string{"aa", "bb", "cc"}) {
			t.Fatal("what was sent changed", i)
		}
	}
	delivered, way, e := flow.Run([]string{"", "x"}, []api.Act{{What: api.FSpoil, At: 0, Bit: 3}, act(api.FDeliver, 0)})
	if e != api.OK || !slices.Equal(delivered, []string{""}) || !slices.Equal(way, []string{"x"}) {
		t.Errorf("%q %q %d", delivered, way, e)
	}
	if delivered, way, e := flow.Run(nil, []api.Act{act(api.FDeliver, 0), act(api.FTwice, -1), act(api.FDrop, 7), act(api.FSpoil, 0)}); e != api.OK || len(delivered) != 0 || len(way) != 0 {
		t.Errorf("%q %q %d", delivered, way, e)
	}
}

func TestRun(t *testing.T) {
	s := seed{2}
	for i := range 300 {
		sent, acts := s.Blocks(s.Below(65), s.Below(5)), s.acts(s.Below(257))
		if i%2 == 0 {
			for j := range acts {
				if acts[j].What != api.FSpoil && s.Below(3) > 0 {
					acts[j].What = api.FTwice
				}
			}
		}
		if len(acts) > 3 {
			acts[0] = api.Act{What: api.FSpoil, At: math.MinInt, Bit: math.MinInt}
			acts[1] = api.Act{What: api.FSpoil, At: math.MaxInt, Bit: math.MaxInt}
		}
		kept, keptActs := slices.Clone(sent), slices.Clone(acts)
		delivered, way, e := flow.Run(sent, acts)
		wantDelivered, wantWay := run(sent, acts)
		if e != api.OK || !slices.Equal(delivered, wantDelivered) || !slices.Equal(way, wantWay) {
			t.Fatal(sent, acts, delivered, way, e)
		}
		if !slices.Equal(sent, kept) || !slices.Equal(acts, keptActs) {
			t.Fatal("an argument changed")
		}
	}
}

func TestRunWrong(t *testing.T) {
	refused := func(what string, sent []string, acts []api.Act, want api.Errno) {
		t.Helper()
		if delivered, way, e := flow.Run(sent, acts); e != want || len(delivered) != 0 || len(way) != 0 {
			t.Error(what, delivered, way, e)
		}
	}
	for _, what := range []int{-1, 4, math.MinInt, math.MaxInt} {
		bad := []api.Act{act(api.FDrop, 0), act(what, 0)}
		refused("no act", []string{"a"}, bad, api.ErrArg)
		refused("no act, of nothing", nil, bad, api.ErrArg)
		refused("no act, of too many", make([]string, 65), bad, api.ErrArg)
		refused("no act, too late", []string{"a"}, append(make([]api.Act, 256), bad...), api.ErrArg)
	}
	refused("too many sent", make([]string, 65), nil, api.ErrSize)
	refused("too many acts", []string{"a"}, make([]api.Act, 257), api.ErrSize)
	refused("too many acts of nothing", nil, make([]api.Act, 257), api.ErrSize)
	if delivered, way, e := flow.Run(make([]string, 64), make([]api.Act, 256)); e != api.OK || len(delivered) != 64 || len(way) != 0 {
		t.Error(len(delivered), len(way), e)
	}
}

func opened(k, size, cap int) api.Receiver {
	r, _ := receiver.Do(api.Receiver{}, api.Call{What: api.COpen, Object: 1, K: k, Size: size, Cap: cap})
	return r
}

func TestFeed(t *testing.T) {
	blocks := []string{"ab", "cd", "ef"}
	sent, _ := flow.Send(1, blocks, ids(0, 6))
	other, _ := flow.Send(2, blocks, ids(0, 1))
	size, _ := flow.Send(1, blocks[:2], ids(9, 2))
	bytes := []string{sent[0], "", sent[0], sent[1], other[0], "junk", sent[1][:20], sent[2], size[0], sent[3], sent[4], sent[2], size[1]}
	r := opened(3, 2, 3)
	kept := slices.Clone(bytes)
	got, tally, e := flow.Feed(r, bytes)
	want := r
	for _, b := range bytes {
		want, _ = receiver.Take(want, b)
	}
	if e != api.OK || !receiver.Like(got, want) || tally != (api.Tally{Taken: 3, Old: 2, Full: 2, Malformed: 3, Other: 3}) {
		t.Error(got, tally, e)
	}
	if !slices.Equal(bytes, kept) || len(r.Objects[0].Store.Symbols) != 0 {
		t.Error("an argument changed")
	}
	if got, tally, e := flow.Feed(r, nil); e != api.OK || !receiver.Like(got, r) || tally != (api.Tally{}) {
		t.Error(got, tally, e)
	}
	if got, tally, e := flow.Feed(api.Receiver{}, make([]string, 256)); e != api.OK || len(got.Objects) != 0 || tally != (api.Tally{Malformed: 256}) {
		t.Error(got, tally, e)
	}
	if got, tally, e := flow.Feed(r, make([]string, 257)); e != api.ErrSize || !isZero(got, tally) {
		t.Error(got, tally, e)
	}
	bad := api.Receiver{Objects: []api.Object{{}}}
	for _, many := range []int{0, 1, 257} {
		if got, tally, e := flow.Feed(bad, make([]string, many)); e != api.ErrArg || !isZero(got, tally) {
			t.Error(got, tally, e)
		}
	}
}

func TestWhole(t *testing.T) {
	s := seed{3}
	for range 100 {
		k, n, most := 1+s.Below(12), s.Below(10), 1+s.Below(64)
		blocks, numbers, acts := s.Blocks(k, n), ids(uint64(s.Below(1000)), uint64(s.Below(65))), s.acts(s.Below(257))
		sent, _ := flow.Send(1, blocks, numbers)
		delivered, _, _ := flow.Run(sent, acts)
		want, wantTally, _ := flow.Feed(opened(k, n, most), delivered)
		got, tally, e := flow.Whole(blocks, numbers, acts, most)
		if e != api.OK || !receiver.Like(got, want) || tally != wantTally {
			t.Fatal(k, n, most, got, tally, e)
		}
		if len(got.Objects) != 1 || got.Objects[0].Id != 1 || got.Objects[0].Store.K != k || got.Objects[0].Store.Size != n || got.Objects[0].Store.Cap != most {
			t.Fatal(got)
		}
	}
}

func TestWholeWrong(t *testing.T) {
	good, bad := []api.Act{act(api.FDeliver, 0)}, []api.Act{act(9, 0)}
	refused := func(what string, blocks []string, numbers []uint64, acts []api.Act, most int, want api.Errno) {
		t.Helper()
		if r, tally, e := flow.Whole(blocks, numbers, acts, most); e != want || !isZero(r, tally) {
			t.Error(what, r, tally, e)
		}
	}
	for _, blocks := range wrongBlocks() {
		refused("blocks", blocks, ids(0, 1), good, 5, api.ErrArg)
		refused("blocks, and all else", blocks, ids(0, 65), make([]api.Act, 257), 0, api.ErrArg)
	}
	blocks := []string{"a", "b"}
	refused("numbers", blocks, ids(0, 65), good, 5, api.ErrSize)
	refused("numbers ahead of acts", blocks, ids(0, 65), bad, 0, api.ErrSize)
	refused("acts", blocks, ids(0, 3), bad, 5, api.ErrArg)
	refused("acts ahead of most", blocks, ids(0, 3), bad, 0, api.ErrArg)
	refused("many acts", blocks, ids(0, 3), make([]api.Act, 257), 5, api.ErrSize)
	for _, most := range []int{0, -1, 65, math.MinInt, math.MaxInt} {
		refused("most", blocks, ids(0, 3), good, most, api.ErrSize)
	}
	for _, most := range []int{1, 64} {
		if _, tally, e := flow.Whole(blocks, ids(0, 3), good, most); e != api.OK || tally.Taken != 1 {
			t.Error(most, tally, e)
		}
	}
}

func TestOverABadNet(t *testing.T) {
	s := seed{4}
	told := 0
	for range 300 {
		k, n, most := 1+s.Below(8), s.Below(5), 1+s.Below(64)
		blocks := s.Blocks(k, n)
		acts := s.acts(s.Below(257))
		for i := range acts {
			if s.Below(2) == 0 {
				acts[i].What = s.Below(2)
			}
		}
		r, tally, e := flow.Whole(blocks, ids(uint64(s.Below(50)), uint64(s.Below(65))), acts, most)
		if e != api.OK || tally.Other != 0 {
			t.Fatal(tally, e)
		}
		store := r.Objects[0].Store
		if len(store.Symbols) != tally.Taken || len(store.Symbols) > most {
			t.Fatal(len(store.Symbols), tally)
		}
		var taken []uint64
		for _, x := range store.Symbols {
			if want, _ := encode.Make(blocks, x.Id); x != want {
				t.Fatal("a symbol was taken that was not sent", x)
			}
			taken = append(taken, x.Id)
		}
		m, _ := neighbours.Rows(k, taken)
		rank, _ := reduce.Rank(m)
		_, reply := receiver.Do(r, api.Call{What: api.CResult, Object: 1})
		if rank == k && (reply.Why != api.OK || !slices.Equal(reply.Blocks, blocks)) || rank < k && reply.Why != api.ErrNotReady {
			t.Fatal(k, rank, reply)
		}
		if reply.Why == api.OK {
			told++
		}
	}
	if told == 0 {
		t.Error("no blocks were told")
	}
}

func TestSpoiltIsMalformed(t *testing.T) {
	blocks := []string{"abc", "def"}
	sent, _ := flow.Send(1, blocks, ids(5, 1))
	for bit := range 8 * len(sent[0]) {
		acts := []api.Act{{What: api.FSpoil, Bit: bit}, {What: api.FSpoil, Bit: bit}, act(api.FTwice, 0), {What: api.FSpoil, Bit: bit + 1}, act(api.FDeliver, 0)}
		r, tally, e := flow.Whole(blocks, ids(5, 1), acts, 9)
		if e != api.OK || tally != (api.Tally{Malformed: 2}) || len(r.Objects[0].Store.Symbols) != 0 {
			t.Fatal(bit, tally, e)
		}
	}
}
