// Package bits handles bits of words, and numbers as bytes.
package bits

import (
	"math"

	"chartulary/api"
)

// mostPacked is how many bytes Pack writes at most: 64 bits, seven in each byte.
const mostPacked = 10

// Put: a number as so many bytes, the highest first.
func Put(n uint64, size int) ([]byte, api.Errno) {
	if size < 1 || size > 8 {
		return nil, api.ErrArg
	}
	if n>>(8*size) != 0 {
		return nil, api.ErrRange
	}
	b := make([]byte, size)
	for i := range b {
		b[i] = byte(n >> (8 * (size - 1 - i)))
	}
	return b, api.OK
}

// Get: the number that bytes are.
func Get(b []byte) (uint64, api.Errno) {
	if len(b) < 1 || len(b) > 8 {
		return 0, api.ErrArg
	}
	var n uint64
	for _, c := range b {
		n = n<<8 | uint64(c)
	}
	return n, api.OK
}

// Pack: a number as few bytes as can be, seven bits in each.
func Pack(n uint64) []byte {
	var b []byte
	for n > 0x7F {
		b = append(b, byte(n)|0x80)
		n >>= 7
	}
	return append(b, byte(n))
}

// Unpack: the number that bytes begin with, and how many they are.
func Unpack(b []byte) (n uint64, used int, e api.Errno) {
	for i, c := range b {
		// Of the tenth byte only the lowest bit has room in 64; this ends the loop there, too.
		if i == mostPacked-1 && c > 1 {
			return 0, 0, api.ErrForm
		}
		n |= uint64(c&0x7F) << (7 * i)
		if c&0x80 != 0 {
			continue
		}
		// A last byte without bits could have been left away, but for that of 0 itself.
		if c == 0 && i > 0 {
			return 0, 0, api.ErrForm
		}
		return n, i + 1, api.OK
	}
	return 0, 0, api.ErrShort
}

// Zig: a number with a sign as one without.
func Zig(n int64) uint64 { return uint64(n)<<1 ^ uint64(n>>63) }

// Zag: and back.
func Zag(u uint64) int64 { return int64(u>>1) ^ -int64(u&1) }

// inWord: do bits from a place on lie within a word? Each number is looked at ahead of their sum, which might wrap round.
func inWord(at, width int) bool {
	return at >= 0 && width >= 0 && at <= 64 && width <= 64 && at+width <= 64
}

// lowest: a word whose lowest bits are 1. A shift by 64 leaves 0, so that all bits are 1 then.
func lowest(width int) uint64 { return uint64(1)<<width - 1 }

// Field: some bits of a word.
func Field(w uint64, at, width int) (uint64, api.Errno) {
	if !inWord(at, width) {
		return 0, api.ErrArg
	}
	return w >> at & lowest(width), api.OK
}

// Set: a word with some bits as they should be.
func Set(w uint64, at, width int, v uint64) (uint64, api.Errno) {
	if !inWord(at, width) {
		return 0, api.ErrArg
	}
	if v>>width != 0 {
		return 0, api.ErrRange
	}
	return w&^(lowest(width)<<at) | v<<at, api.OK
}

// Turn: a word turned round to the left.
func Turn(w uint32, n int) uint32 {
	// The lowest five bits of n are what is left of it behind whole rounds, below 0, too.
	k := uint32(n) & 31
	return w<<k | w>>(32-k)
}

// Add: a sum that stays at the ends.
func Add(a, b int64) int64 {
	if b > 0 && a > math.MaxInt64-b {
		return math.MaxInt64
	}
	if b < 0 && a < math.MinInt64-b {
		return math.MinInt64
	}
	return a + b
}

// Mul: a product that stays at the ends.
func Mul(a, b int64) int64 {
	if a == 0 || b == 0 {
		return 0
	}
	x, y := distance(a), distance(b)
	if (a < 0) == (b < 0) {
		if x > math.MaxInt64/y {
			return math.MaxInt64
		}
		return int64(x * y)
	}
	if x > distance(math.MinInt64)/y {
		return math.MinInt64
	}
	return -int64(x * y)
}

// distance: how far a number is from 0. The least number is its own opposite, but as a number without a sign it is right.
func distance(n int64) uint64 {
	if n < 0 {
		return uint64(-n)
	}
	return uint64(n)
}

// Ones: how many bits of a word are 1.
func Ones(w uint64) int {
	n := 0
	for ; w != 0; w &= w - 1 {
		n++
	}
	return n
}

// swaps are the pieces of a word that change places with their neighbours, from single bits up to its halves.
var swaps = [...]struct {
	low uint32
	by  uint
}{
	{0x55555555, 1},
	{0x33333333, 2},
	{0x0F0F0F0F, 4},
	{0x00FF00FF, 8},
	{0x0000FFFF, 16},
}

// Swap: a word with its bits in the other order.
func Swap(w uint32) uint32 {
	for _, s := range swaps {
		w = w&s.low<<s.by | w>>s.by&s.low
	}
	return w
}
