// Package ids is layer 1: sets of numbers, bits, numbers as bytes: see shared/doc/01-ids.md.
package ids

import (
	"iter"
	"math/bits"
	"slices"

	"chandler/api"
)

// Sort is a list's numbers, rising, each once.
func Sort(l []int) []int {
	out := slices.Clone(l)
	slices.Sort(out)
	return slices.Compact(out)
}

// Union are the numbers of both, rising.
func Union(a, b []int) []int {
	return merge(a, b, func(inA, inB bool) bool { return inA || inB })
}

// Meet are the numbers that are in both, rising.
func Meet(a, b []int) []int {
	return merge(a, b, func(inA, inB bool) bool { return inA && inB })
}

// Minus are the numbers of the first that are not in the second, rising.
func Minus(a, b []int) []int {
	return merge(a, b, func(inA, inB bool) bool { return inA && !inB })
}

// merge goes through the numbers of both lists, rising, and leaves those that stay.
func merge(a, b []int, stays func(inA, inB bool) bool) []int {
	a, b = Sort(a), Sort(b)
	var out []int
	for len(a) > 0 || len(b) > 0 {
		inA := len(a) > 0 && (len(b) == 0 || a[0] <= b[0])
		inB := len(b) > 0 && (len(a) == 0 || b[0] <= a[0])
		var n int
		if inB {
			n, b = b[0], b[1:]
		}
		if inA {
			n, a = a[0], a[1:]
		}
		if stays(inA, inB) {
			out = append(out, n)
		}
	}
	return out
}

const (
	maxBit   = 65535 // the greatest number that Bits may have
	wordBits = 64
)

// Bits are some of the numbers from 0 on.
type Bits struct {
	words [maxBit/wordBits + 1]uint64
}

// Set puts a number in, or takes it out: whether that changed something.
func (b *Bits) Set(n int, in bool) (bool, api.Errno) {
	if b == nil || n < 0 || n > maxBit {
		return false, api.ErrArg
	}
	if b.Has(n) == in {
		return false, api.OK
	}
	b.words[n/wordBits] ^= 1 << (n % wordBits)
	return true, api.OK
}

// Has tells whether a number is in.
func (b *Bits) Has(n int) bool {
	if b == nil || n < 0 || n > maxBit {
		return false
	}
	return b.words[n/wordBits]>>(n%wordBits)&1 == 1
}

// Count is how many are in.
func (b *Bits) Count() int {
	if b == nil {
		return 0
	}
	count := 0
	for _, w := range b.words {
		count += bits.OnesCount64(w)
	}
	return count
}

// All are those that are in, rising.
func (b *Bits) All() iter.Seq[int] {
	return func(yield func(int) bool) {
		if b == nil {
			return
		}
		// A copy, because the one who ranges may change the bits on the way.
		words := b.words
		for i, w := range words {
			for ; w != 0; w &= w - 1 {
				if !yield(i*wordBits + bits.TrailingZeros64(w)) {
					return
				}
			}
		}
	}
}

const (
	more     = 128 // the bit that tells that another byte follows
	byteBits = 7   // the bits of a number that a byte has
	maxBytes = 10  // the bytes of the greatest number
)

// Put appends a number as bytes.
func Put(b []byte, n uint64) []byte {
	// Not append to b: that could write into its spare room.
	out := make([]byte, 0, len(b)+maxBytes)
	out = append(out, b...)
	for n >= more {
		out = append(out, byte(n)|more)
		n >>= byteBits
	}
	return append(out, byte(n))
}

// Take reads a number at bytes' beginning: it, and how many bytes it has.
func Take(b []byte) (uint64, int, api.Errno) {
	var n uint64
	for i, c := range b {
		// Nine bytes have 63 bits: the tenth has room for one, and none may follow it.
		if i == maxBytes-1 && c > 1 {
			return 0, 0, api.ErrIdsLong
		}
		n |= uint64(c%more) << (byteBits * i)
		if c >= more {
			continue
		}
		if c == 0 && i > 0 {
			return 0, 0, api.ErrIdsLong
		}
		return n, i + 1, api.OK
	}
	return 0, 0, api.ErrIdsShort
}
