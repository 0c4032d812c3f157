package random_test

import (
	"math"
	"math/big"
	"slices"
	"testing"

	"downpour/api"
	"downpour/random"
)

const gold = 0x9E3779B97F4A7C15

// mix is the tests' own, in numbers without a bound.
func mix(z uint64) uint64 {
	whole := new(big.Int).Lsh(big.NewInt(1), 64)
	step := func(z uint64, by uint, times string) uint64 {
		f, _ := new(big.Int).SetString(times, 10)
		x := new(big.Int).SetUint64(z ^ z>>by)
		return x.Mod(x.Mul(x, f), whole).Uint64()
	}
	z = step(z, 30, "13787848793156543929")
	z = step(z, 27, "10723151780598845931")
	return z ^ z>>31
}

// unmix is the number that is mixed to z.
func unmix(z uint64) uint64 {
	z = z ^ z>>31 ^ z>>62
	z *= inverse(10723151780598845931)
	z = z ^ z>>27 ^ z>>54
	z *= inverse(13787848793156543929)
	return z ^ z>>30 ^ z>>60
}

func inverse(odd uint64) uint64 {
	x := odd
	for range 6 {
		x *= 2 - odd*x
	}
	return x
}

// before is the state whose next number is x.
func before(x uint64) uint64 { return unmix(x) - gold }

// below is the tests' own, by the document's words.
func below(state uint64, n int) (uint64, int) {
	whole := new(big.Int).Lsh(big.NewInt(1), 64)
	m := new(big.Int).Sub(whole, new(big.Int).Mod(whole, big.NewInt(int64(n))))
	for {
		state += gold
		x := mix(state)
		if new(big.Int).SetUint64(x).Cmp(m) < 0 {
			return state, int(x % uint64(n))
		}
	}
}

func order(state uint64, n int) (uint64, []int) {
	var l []int
	for i := range n {
		l = append(l, i)
	}
	for i := n - 1; i >= 1; i-- {
		var j int
		state, j = below(state, i+1)
		l[i], l[j] = l[j], l[i]
	}
	return state, l
}

var seeds = []uint64{0, 1, 2, 1234567, 1 << 32, 1 << 63, gold, -gold & math.MaxUint64, math.MaxUint64, math.MaxUint64 - 1}

var bounds = []int{1, 2, 3, 4, 5, 6, 7, 8, 63, 64, 65, 100, 255, 256, 257, 511, 512}

var wrongBounds = []int{0, -1, 513, 1024, math.MinInt, math.MaxInt}

func TestStart(t *testing.T) {
	if random.Start(0) != 0 || random.Start(gold) != 0xE220A8397B1DCDAF {
		t.Error(random.Start(0), random.Start(gold))
	}
	for _, s := range seeds {
		if got := random.Start(s); got != mix(s) {
			t.Error(s, got)
		}
	}
}

func TestNext(t *testing.T) {
	state := uint64(1234567)
	for i, want := range []uint64{6457827717110365317, 3203168211198807973, 9817491932198370423, 4593380528125082431, 16408922859458223821} {
		was := state
		var x uint64
		state, x = random.Next(state)
		if x != want || state != was+gold {
			t.Error(i, state, x)
		}
	}
	for _, s := range seeds {
		if state, x := random.Next(s); state != s+gold || x != mix(s+gold) {
			t.Error(s, state, x)
		}
	}
}

func TestBelow(t *testing.T) {
	for _, s := range seeds {
		for _, n := range bounds {
			want, number := below(s, n)
			if state, x, e := random.Below(s, n); e != api.OK || state != want || x != number {
				t.Error(s, n, state, x, e)
			}
		}
	}
	if state, x, e := random.Below(9, 1); e != api.OK || x != 0 || state != 9+gold {
		t.Error("one number is taken below 1, too", state, x, e)
	}
}

func TestBelowTakesOneMore(t *testing.T) {
	for _, n := range bounds {
		rest := -uint64(n) % uint64(n)
		for _, back := range []uint64{1, 2, 3, rest, rest + 1, rest + 2} {
			s := before(-back)
			want, number := below(s, n)
			state, x, e := random.Below(s, n)
			if e != api.OK || state != want || x != number {
				t.Error(n, back, state, x, e)
			}
			if refused := back >= 1 && back <= rest; refused != (state != s+gold) {
				t.Error("refused", n, back)
			}
		}
	}
}

func TestShuffle(t *testing.T) {
	for _, s := range seeds {
		for _, n := range bounds {
			want, numbers := order(s, n)
			state, l, e := random.Shuffle(s, n)
			if e != api.OK || state != want || !slices.Equal(l, numbers) {
				t.Error(s, n, state, l, e)
			}
			slices.Sort(l)
			for i := range n {
				if l[i] != i {
					t.Fatal("not each number once", s, n)
				}
			}
		}
	}
	if state, l, e := random.Shuffle(77, 1); e != api.OK || state != 77 || !slices.Equal(l, []int{0}) {
		t.Error("an order of one takes no number", state, l, e)
	}
}

func TestSome(t *testing.T) {
	for _, s := range seeds {
		for _, n := range bounds {
			behind, all := order(s, n)
			for _, many := range []int{0, 1, 2, n / 2, n - 1, n} {
				if many > n {
					continue
				}
				want := slices.Clone(all[:many])
				slices.Sort(want)
				if state, l, e := random.Some(s, n, many); e != api.OK || state != behind || !slices.Equal(l, want) {
					t.Error(s, n, many, state, l, e)
				}
			}
		}
	}
}

func TestWrong(t *testing.T) {
	for _, n := range wrongBounds {
		if state, x, e := random.Below(5, n); e != api.ErrSize || state != 0 || x != 0 {
			t.Error(n, state, x, e)
		}
		if state, l, e := random.Shuffle(5, n); e != api.ErrSize || state != 0 || len(l) != 0 {
			t.Error(n, state, l, e)
		}
		for _, many := range []int{0, 1, n} {
			if state, l, e := random.Some(5, n, many); e != api.ErrSize || state != 0 || len(l) != 0 {
				t.Error(n, many, state, l, e)
			}
		}
	}
	for _, n := range bounds {
		for _, many := range []int{-1, n + 1, math.MinInt, math.MaxInt} {
			if state, l, e := random.Some(5, n, many); e != api.ErrSize || state != 0 || len(l) != 0 {
				t.Error(n, many, state, l, e)
			}
		}
	}
}

func TestOneStateOneRow(t *testing.T) {
	state := random.Start(42)
	at := state
	var first, again []int
	for range 10 {
		var x int
		at, x, _ = random.Below(at, 100)
		first = append(first, x)
	}
	at = state
	for range 10 {
		var x int
		at, x, _ = random.Below(at, 100)
		again = append(again, x)
	}
	if !slices.Equal(first, again) {
		t.Error(first, again)
	}
}
