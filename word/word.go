// Package word is layer 1, words of 64 bits and their parts: see shared/doc/01-word.md.
package word

import (
	"math/bits"

	"coachyard/api"
)

const (
	width = 64
	half  = width / 2
)

// Pair puts hi above lo.
func Pair(hi, lo uint32) uint64 {
	return uint64(hi)<<half | uint64(lo)
}

// Split tells a pair's hi and lo.
func Split(u uint64) (uint32, uint32) {
	return uint32(u >> half), uint32(u)
}

// Ahead tells by how much a is ahead of b; it is below 0 where a is behind.
func Ahead(a, b uint32) int {
	// The difference goes round at 2^32, and its upper half stands for the numbers below 0.
	return int(int32(a - b))
}

// Field tells the n bits of u from the place at on.
func Field(u uint64, at, n int) (uint64, api.Code) {
	if !isField(at, n) {
		return 0, api.Arg
	}
	return u >> at & ones(n), api.Fine
}

// With tells u with v in the n bits from the place at on.
func With(u uint64, at, n int, v uint64) (uint64, api.Code) {
	if !isField(at, n) {
		return 0, api.Arg
	}
	if v > ones(n) {
		return 0, api.Long
	}
	return u&^(ones(n)<<at) | v<<at, api.Fine
}

// First tells the place of u's lowest 1; there is none in 0.
func First(u uint64) (int, bool) {
	if u == 0 {
		return 0, false
	}
	return bits.TrailingZeros64(u), true
}

// Bits tells the places of u's 1s, rising.
func Bits(u uint64) []int {
	places := make([]int, 0, bits.OnesCount64(u))
	for ; u != 0; u &= u - 1 {
		places = append(places, bits.TrailingZeros64(u))
	}
	return places
}

// isField subtracts only once n is known to be small: at+n could go round.
func isField(at, n int) bool {
	return 1 <= n && n <= width && 0 <= at && at <= width-n
}

// ones is a word of n 1s at its lower end, for n from 1 to 64.
func ones(n int) uint64 {
	return ^uint64(0) >> (width - n)
}
