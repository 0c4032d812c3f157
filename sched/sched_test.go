package sched_test

import (
	"math"
	"slices"
	"testing"

	"downpour/api"
	"downpour/sample"
	"downpour/sched"
)

// seed makes the inputs of these tests.
type seed struct{ sample.Seed }

func in(op, a, n int) api.Instr { return api.Instr{Op: op, A: a, N: n} }

func lock(a int) api.Instr    { return in(api.ILock, a, 0) }
func unlock(a int) api.Instr  { return in(api.IUnlock, a, 0) }
func add(a, n int) api.Instr  { return in(api.IAdd, a, n) }
func send(a, n int) api.Instr { return in(api.ISend, a, n) }
func recv(a int) api.Instr    { return in(api.IRecv, a, 0) }

func lists[T any](l ...[]T) [][]T { return l }

func copyOf(s api.System) api.System {
	s.Threads, s.Chans = slices.Clone(s.Threads), slices.Clone(s.Chans)
	for i := range s.Threads {
		s.Threads[i] = slices.Clone(s.Threads[i])
	}
	for i := range s.Chans {
		s.Chans[i] = slices.Clone(s.Chans[i])
	}
	s.At, s.Sums, s.Locks, s.Cells = slices.Clone(s.At), slices.Clone(s.Sums), slices.Clone(s.Locks), slices.Clone(s.Cells)
	return s
}

func same(a, b api.System) bool {
	return slices.EqualFunc(a.Threads, b.Threads, slices.Equal) && slices.Equal(a.At, b.At) && slices.Equal(a.Sums, b.Sums) && slices.Equal(a.Locks, b.Locks) && slices.Equal(a.Cells, b.Cells) && slices.EqualFunc(a.Chans, b.Chans, slices.Equal)
}

func isZero(s api.System) bool { return same(s, api.System{}) }

func made(t *testing.T, threads ...[]api.Instr) api.System {
	t.Helper()
	s, e := sched.New(threads)
	if e != api.OK {
		t.Fatal(e)
	}
	return s
}

// changed are systems that come of a good one by one change each.
func changed(s api.System, changes ...func(*api.System)) []api.System {
	var l []api.System
	for _, change := range changes {
		c := copyOf(s)
		change(&c)
		l = append(l, c)
	}
	return l
}

func base(t *testing.T) api.System {
	s := made(t, []api.Instr{lock(0), add(1, 5), unlock(0)}, []api.Instr{send(2, 7), recv(3)})
	s.Chans[3] = []int{1, 2}
	return s
}

func bad(t *testing.T) []api.System {
	set := func(p func(*api.System) *int, x int) func(*api.System) {
		return func(s *api.System) { *p(s) = x }
	}
	at := func(s *api.System) *int { return &s.At[1] }
	sum := func(s *api.System) *int { return &s.Sums[0] }
	held := func(s *api.System) *int { return &s.Locks[3] }
	cell := func(s *api.System) *int { return &s.Cells[3] }
	waits := func(s *api.System) *int { return &s.Chans[3][1] }
	op := func(s *api.System) *int { return &s.Threads[1][1].Op }
	a := func(s *api.System) *int { return &s.Threads[0][2].A }
	n := func(s *api.System) *int { return &s.Threads[0][1].N }
	var l []func(*api.System)
	for _, x := range []int{-1, 3, math.MinInt, math.MaxInt} {
		l = append(l, set(at, x))
	}
	for _, x := range []int{1 << 30, -1 << 30, 1<<30 + 1, math.MinInt, math.MaxInt} {
		l = append(l, set(sum, x), set(cell, x), set(waits, x))
	}
	for _, x := range []int{-2, 2, 8, math.MinInt, math.MaxInt} {
		l = append(l, set(held, x))
	}
	for _, x := range []int{-1, 5, math.MaxInt} {
		l = append(l, set(op, x))
	}
	for _, x := range []int{-1, 4, math.MinInt} {
		l = append(l, set(a, x))
	}
	for _, x := range []int{-1001, 1001, math.MinInt, math.MaxInt} {
		l = append(l, set(n, x))
	}
	l = append(l,
		func(s *api.System) { s.At = s.At[:1] },
		func(s *api.System) { s.At = append(s.At, 0) },
		func(s *api.System) { s.Sums = nil },
		func(s *api.System) { s.Sums = append(s.Sums, 0) },
		func(s *api.System) { s.Locks = s.Locks[:3] },
		func(s *api.System) { s.Locks = append(s.Locks, -1) },
		func(s *api.System) { s.Cells = s.Cells[:3] },
		func(s *api.System) { s.Cells = append(s.Cells, 0) },
		func(s *api.System) { s.Chans = s.Chans[:3] },
		func(s *api.System) { s.Chans = append(s.Chans, nil) },
		func(s *api.System) { s.Chans[3] = []int{1, 2, 3} },
		func(s *api.System) { s.Threads[0] = slices.Repeat([]api.Instr{add(0, 1)}, 17) },
		func(s *api.System) { s.Threads = s.Threads[:1] },
		func(s *api.System) { s.Threads = append(s.Threads, nil) },
		func(s *api.System) {
			s.Threads, s.At, s.Sums = make([][]api.Instr, 9), make([]int, 9), make([]int, 9)
		},
	)
	return append(changed(base(t), l...), api.System{})
}

func good(t *testing.T) []api.System {
	return append(changed(base(t),
		func(s *api.System) {},
		func(s *api.System) { s.At = []int{3, 2} },
		func(s *api.System) { s.Sums = []int{1<<30 - 1, 1 - 1<<30} },
		func(s *api.System) { s.Cells = []int{1<<30 - 1, 1 - 1<<30, 0, 5} },
		func(s *api.System) { s.Chans[0] = []int{1<<30 - 1, 1 - 1<<30} },
		func(s *api.System) { s.Locks = []int{0, 1, -1, 1} },
		func(s *api.System) { s.Threads[0][1].N = 1000 },
		func(s *api.System) { s.Threads[0][1].N = -1000 },
		func(s *api.System) { s.Threads[0][0].A = 3 },
		func(s *api.System) { s.Threads[0] = slices.Repeat([]api.Instr{add(0, 1)}, 16) },
	), made(t), made(t, make([][]api.Instr, 8)...))
}

func TestNew(t *testing.T) {
	threads := lists([]api.Instr{lock(0), send(3, -1000)}, nil, []api.Instr{add(2, 1000)})
	kept := copyOf(api.System{Threads: threads})
	s, e := sched.New(threads)
	want := api.System{Threads: threads, At: []int{0, 0, 0}, Sums: []int{0, 0, 0}, Locks: []int{-1, -1, -1, -1}, Cells: []int{0, 0, 0, 0}, Chans: make([][]int, 4)}
	if e != api.OK || !same(s, want) || !sched.Right(s) || !same(api.System{Threads: threads}, kept) {
		t.Error(s, e)
	}
	for i, threads := range [][][]api.Instr{
		make([][]api.Instr, 9),
		{slices.Repeat([]api.Instr{add(0, 1)}, 17)},
		{nil, {in(5, 0, 0)}},
		{{in(-1, 0, 0)}},
		{{lock(4)}},
		{{lock(-1)}},
		{{add(0, 1001)}},
		{{add(0, -1001)}},
		{{lock(0), in(api.ILock, 0, 1001)}},
	} {
		if s, e := sched.New(threads); e != api.ErrArg || !isZero(s) {
			t.Error(i, s, e)
		}
	}
}

func TestRight(t *testing.T) {
	for i, s := range good(t) {
		if !sched.Right(s) {
			t.Error(i)
		}
	}
	for i, s := range bad(t) {
		if sched.Right(s) {
			t.Error(i, s)
		}
	}
}

func TestLike(t *testing.T) {
	for i, s := range append(good(t), bad(t)...) {
		if !sched.Like(s, copyOf(s)) {
			t.Error(i)
		}
	}
	for i, s := range changed(base(t),
		func(s *api.System) { s.Threads[0][1].N = 6 },
		func(s *api.System) { s.Threads[1] = s.Threads[1][:1] },
		func(s *api.System) { s.Threads = s.Threads[:1] },
		func(s *api.System) { s.At[1] = 1 },
		func(s *api.System) { s.Sums[0] = 1 },
		func(s *api.System) { s.Locks[2] = 0 },
		func(s *api.System) { s.Cells[0] = 1 },
		func(s *api.System) { s.Chans[3][1] = 1 },
		func(s *api.System) { s.Chans[3] = s.Chans[3][:1] },
		func(s *api.System) { s.Chans[0] = []int{0} },
	) {
		if sched.Like(s, base(t)) || sched.Like(base(t), s) {
			t.Error(i)
		}
	}
}

func TestWrong(t *testing.T) {
	for i, s := range bad(t) {
		kept := copyOf(s)
		if l, e := sched.Enabled(s); e != api.ErrArg || len(l) != 0 {
			t.Error(i, l, e)
		}
		for _, thread := range []int{0, -1, 99} {
			if x, e := sched.Step(s, thread); e != api.ErrArg || !isZero(x) {
				t.Error(i, x, e)
			}
		}
		for _, picks := range [][]int{nil, {0, 1}} {
			if x, l, e := sched.Run(s, picks); e != api.ErrArg || !isZero(x) || len(l) != 0 {
				t.Error(i, x, l, e)
			}
		}
		if ok, e := sched.Done(s); e != api.ErrArg || ok {
			t.Error(i, ok, e)
		}
		if !same(s, kept) {
			t.Error("the system changed", i)
		}
	}
}

// can is the tests' own.
func can(s api.System, thread int) bool {
	if s.At[thread] >= len(s.Threads[thread]) {
		return false
	}
	x := s.Threads[thread][s.At[thread]]
	switch x.Op {
	case api.ILock:
		return s.Locks[x.A] == -1
	case api.ISend:
		return len(s.Chans[x.A]) < 2
	case api.IRecv:
		return len(s.Chans[x.A]) > 0
	}
	return true
}

func behind(s api.System, thread int) api.System {
	s = copyOf(s)
	x := s.Threads[thread][s.At[thread]]
	s.At[thread]++
	switch x.Op {
	case api.ILock:
		s.Locks[x.A] = thread
	case api.IUnlock:
		if s.Locks[x.A] == thread {
			s.Locks[x.A] = -1
		}
	case api.IAdd:
		s.Cells[x.A] += x.N
	case api.ISend:
		s.Chans[x.A] = append(s.Chans[x.A], x.N)
	case api.IRecv:
		s.Sums[thread] += s.Chans[x.A][0]
		s.Chans[x.A] = s.Chans[x.A][1:]
	}
	return s
}

func enabled(s api.System) []int {
	var l []int
	for i := range s.Threads {
		if can(s, i) {
			l = append(l, i)
		}
	}
	return l
}

func run(s api.System, picks []int) (api.System, []int) {
	var went []int
	for _, p := range picks {
		l := enabled(s)
		if len(l) == 0 {
			break
		}
		i := p % len(l)
		if i < 0 {
			i += len(l)
		}
		s = behind(s, l[i])
		went = append(went, l[i])
	}
	return s, went
}

func (r *seed) threads(many, steps int) [][]api.Instr {
	l := make([][]api.Instr, many)
	for i := range l {
		for range r.Below(steps + 1) {
			l[i] = append(l[i], in(r.Below(5), r.Below(4), r.Below(2001)-1000))
		}
	}
	return l
}

func TestStepExamples(t *testing.T) {
	s := made(t, []api.Instr{lock(1), lock(1)}, []api.Instr{lock(1), unlock(1)}, []api.Instr{unlock(1), send(0, 5), send(0, 6), send(0, 7)}, []api.Instr{recv(0), add(3, 4)})
	step := func(thread int) {
		t.Helper()
		var e api.Errno
		if s, e = sched.Step(s, thread); e != api.OK {
			t.Fatal(thread, e)
		}
	}
	stands := func(thread int) {
		t.Helper()
		if x, e := sched.Step(s, thread); e != api.ErrState || !isZero(x) {
			t.Fatal(thread, e)
		}
	}
	stands(3)
	step(0)
	stands(0)
	stands(1)
	step(2)
	if !slices.Equal(s.Locks, []int{-1, 0, -1, -1}) {
		t.Error("another one's lock was given back", s.Locks)
	}
	step(2)
	step(2)
	stands(2)
	step(3)
	step(2)
	stands(2)
	if !slices.Equal(s.Chans[0], []int{6, 7}) || !slices.Equal(s.Sums, []int{0, 0, 0, 5}) {
		t.Error(s)
	}
	step(3)
	stands(3)
	if s.Cells[3] != 4 || !slices.Equal(s.At, []int{1, 0, 4, 2}) {
		t.Error(s)
	}
}

func TestStepAgainstTheWords(t *testing.T) {
	r := seed{1}
	for range 200 {
		s := made(t, r.threads(1+r.Below(8), 16)...)
		for range 100 {
			kept := copyOf(s)
			want := enabled(s)
			if l, e := sched.Enabled(s); e != api.OK || !slices.Equal(l, want) {
				t.Fatal(s, l, e)
			}
			ends := true
			for i := range s.Threads {
				ends = ends && s.At[i] == len(s.Threads[i])
				x, e := sched.Step(s, i)
				if slices.Contains(want, i) && (e != api.OK || !same(x, behind(s, i))) {
					t.Fatal(s, i, x, e)
				}
				if !slices.Contains(want, i) && (e != api.ErrState || !isZero(x)) {
					t.Fatal(s, i, x, e)
				}
			}
			if ok, e := sched.Done(s); e != api.OK || ok != ends {
				t.Fatal(s, ok, e)
			}
			for _, i := range []int{-1, len(s.Threads), 8, math.MinInt, math.MaxInt} {
				if x, e := sched.Step(s, i); e != api.ErrRange || !isZero(x) {
					t.Fatal(i, x, e)
				}
			}
			if !same(s, kept) {
				t.Fatal("the system changed")
			}
			if len(want) == 0 {
				break
			}
			s, _ = sched.Step(s, want[r.Below(len(want))])
		}
	}
}

func TestRun(t *testing.T) {
	r := seed{2}
	for range 300 {
		s := made(t, r.threads(r.Below(9), 16)...)
		var picks []int
		for range r.Below(150) {
			picks = append(picks, r.Below(21)-10)
		}
		if len(picks) > 3 {
			picks[1], picks[2] = math.MinInt, math.MaxInt
		}
		kept, keptPicks := copyOf(s), slices.Clone(picks)
		x, went, e := sched.Run(s, picks)
		want, wentWant := run(s, picks)
		if e != api.OK || !same(x, want) || !slices.Equal(went, wentWant) {
			t.Fatal(s, picks, x, went, e)
		}
		if !same(s, kept) || !slices.Equal(picks, keptPicks) {
			t.Fatal("an argument changed")
		}
	}
}

func TestRunStandsStill(t *testing.T) {
	s := made(t, []api.Instr{lock(0), lock(1)}, []api.Instr{lock(1), lock(0)})
	x, went, e := sched.Run(s, []int{0, 1, 0, 0, 0})
	if e != api.OK || !slices.Equal(went, []int{0, 1}) || !slices.Equal(x.Locks, []int{0, 1, -1, -1}) {
		t.Error(x, went, e)
	}
	if ok, e := sched.Done(x); e != api.OK || ok {
		t.Error(ok, e)
	}
	if l, e := sched.Enabled(x); e != api.OK || len(l) != 0 {
		t.Error(l, e)
	}
}

// A step is made as it is said, though a number comes to be too great; the system that comes of it may not be.
func TestStepOverTheBound(t *testing.T) {
	s := made(t, []api.Instr{add(0, 1)})
	s.Cells[0] = 1<<30 - 1
	x, e := sched.Step(s, 0)
	if e != api.OK || x.Cells[0] != 1<<30 || sched.Right(x) {
		t.Error(x, e)
	}
}

// Channels with room behind their lists are not written into.
func TestStepKeepsRoom(t *testing.T) {
	s := made(t, []api.Instr{send(0, 5)}, []api.Instr{send(0, 6)}, []api.Instr{recv(0)})
	room := make([]int, 1, 4)
	room[0] = 9
	s.Chans[0] = room
	a, _ := sched.Step(s, 0)
	b, _ := sched.Step(s, 1)
	c, _ := sched.Step(s, 2)
	if !slices.Equal(a.Chans[0], []int{9, 5}) || !slices.Equal(b.Chans[0], []int{9, 6}) || len(c.Chans[0]) != 0 || c.Sums[2] != 9 || room[0] != 9 || room[:2][1] != 0 {
		t.Error(a, b, c, room[:2])
	}
}

func TestRisingOrderNeverStandsStill(t *testing.T) {
	r := seed{3}
	for range 100 {
		threads := make([][]api.Instr, 1+r.Below(8))
		for i := range threads {
			for a := range 4 {
				if r.Below(2) == 1 {
					threads[i] = append(threads[i], lock(a), add(r.Below(4), r.Below(100)))
				}
			}
			for a := range 4 {
				if slices.Contains(threads[i], lock(a)) {
					threads[i] = append(threads[i], unlock(a))
				}
			}
		}
		var cells []int
		for range 5 {
			picks := make([]int, 8*16)
			for i := range picks {
				picks[i] = r.Below(100)
			}
			x, _, _ := sched.Run(made(t, threads...), picks)
			if ok, e := sched.Done(x); e != api.OK || !ok {
				t.Fatal("stands still", x)
			}
			if cells != nil && !slices.Equal(cells, x.Cells) {
				t.Fatal("cells hang on the picks", cells, x.Cells)
			}
			cells = x.Cells
		}
	}
}
