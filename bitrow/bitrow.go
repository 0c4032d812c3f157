// Package bitrow is layer 1: see shared/doc/01-bitrow.md.
package bitrow

import (
	"iter"
	"math/bits"
	"slices"

	"downpour/api"
)

const wordBits = 64

// New is a row of n bits 0.
func New(n int) (api.Row, api.Errno) {
	if !lengthMayBe(n) {
		return api.Row{}, api.ErrSize
	}
	return api.Row{N: n, Words: make([]uint64, wordsFor(n))}, api.OK
}

// Right tells whether a row may be.
func Right(r api.Row) bool {
	if !lengthMayBe(r.N) || len(r.Words) != wordsFor(r.N) {
		return false
	}
	used := r.N % wordBits
	return used == 0 || r.Words[len(r.Words)-1]>>used == 0
}

// Of is the row whose bits at the places are 1.
func Of(n int, places []int) (api.Row, api.Errno) {
	r, why := New(n)
	if why != api.OK {
		return api.Row{}, why
	}
	for _, p := range places {
		if !isPlace(r, p) {
			return api.Row{}, api.ErrRange
		}
		r.Words[p/wordBits] |= 1 << (p % wordBits)
	}
	return r, api.OK
}

// Places are those whose bits are 1, rising.
func Places(r api.Row) ([]int, api.Errno) {
	if !Right(r) {
		return nil, api.ErrArg
	}
	var l []int
	for p := range ones(r) {
		l = append(l, p)
	}
	return l, api.OK
}

// Get is bit i.
func Get(r api.Row, i int) (int, api.Errno) {
	if !Right(r) {
		return 0, api.ErrArg
	}
	if !isPlace(r, i) {
		return 0, api.ErrRange
	}
	return int(r.Words[i/wordBits] >> (i % wordBits) & 1), api.OK
}

// Xor is the row with 1 where just one of both has 1.
func Xor(a, b api.Row) (api.Row, api.Errno) {
	return joined(a, b, func(x, y uint64) uint64 { return x ^ y })
}

// And is the row with 1 where both have 1.
func And(a, b api.Row) (api.Row, api.Errno) {
	return joined(a, b, func(x, y uint64) uint64 { return x & y })
}

// First is the least place of a bit 1.
func First(r api.Row) (int, api.Errno) {
	if !Right(r) {
		return 0, api.ErrArg
	}
	for p := range ones(r) {
		return p, api.OK
	}
	return 0, api.ErrNone
}

// Count is how many bits are 1.
func Count(r api.Row) (int, api.Errno) {
	if !Right(r) {
		return 0, api.ErrArg
	}
	many := 0
	for _, w := range r.Words {
		many += bits.OnesCount64(w)
	}
	return many, api.OK
}

// Like tells whether two rows are the same; rows that may not be are held against each other just so.
func Like(a, b api.Row) bool {
	return a.N == b.N && slices.Equal(a.Words, b.Words)
}

func lengthMayBe(n int) bool { return 0 <= n && n <= api.MaxBits }

func wordsFor(n int) int { return (n + wordBits - 1) / wordBits }

func isPlace(r api.Row, i int) bool { return 0 <= i && i < r.N }

func ones(r api.Row) iter.Seq[int] {
	return func(yield func(int) bool) {
		for i, w := range r.Words {
			for ; w != 0; w &= w - 1 {
				if !yield(i*wordBits + bits.TrailingZeros64(w)) {
					return
				}
			}
		}
	}
}

func joined(a, b api.Row, word func(x, y uint64) uint64) (api.Row, api.Errno) {
	if !Right(a) || !Right(b) {
		return api.Row{}, api.ErrArg
	}
	if a.N != b.N {
		return api.Row{}, api.ErrSize
	}
	words := make([]uint64, len(a.Words))
	for i := range words {
		words[i] = word(a.Words[i], b.Words[i])
	}
	return api.Row{N: a.N, Words: words}, api.OK
}
