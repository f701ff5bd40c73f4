package bits

import (
	"iter"
	mathbits "math/bits"

	"selion/api"
)

// perWord is how many places a word has.
const perWord = 32

// wordsOf is how many words n places need.
func wordsOf(n int) int {
	return (n + perWord - 1) / perWord
}

// digits are those digits of word k that are places from one on up to another one, without that.
func digits(k int, from int, to int) uint32 {
	return below(to-perWord*k) &^ below(from-perWord*k)
}

// below are a word's digits below the n-th one: all if there are not so many,
// as a 1 that is moved out of the word leaves 0, and that less 1 wraps round.
func below(n int) uint32 {
	return uint32(1)<<max(n, 0) - 1
}

// change works on words that nobody else has: the arguments of a call are never among them.
type change func(words []uint32)

// made are n places, off but for what the changes do, one behind the other.
func made(n int, changes ...change) api.Bits {
	words := make([]uint32, wordsOf(n))
	for _, do := range changes {
		do(words)
	}
	return api.Bits{N: n, Words: words}
}

func copied(b api.Bits) change {
	return func(words []uint32) {
		copy(words, b.Words)
	}
}

func turned(from int, to int, on bool) change {
	return func(words []uint32) {
		for k := range len(words) {
			if on {
				words[k] |= digits(k, from, to)
			} else {
				words[k] &^= digits(k, from, to)
			}
		}
	}
}

// joined takes bits that have as many words as it is given.
func joined(b api.Bits) change {
	return func(words []uint32) {
		for k := range len(words) {
			words[k] |= b.Words[k]
		}
	}
}

// places yields the places of right bits, from one on that is at least 0, that are on, or off, rising.
func places(b api.Bits, from int, on bool) iter.Seq[int] {
	return func(yield func(int) bool) {
		first := from / perWord
	left:
		for ahead := range len(b.Words) - first {
			k := first + ahead
			for i := range ones(so(b.Words[k], on) & digits(k, from, b.N)) {
				if !yield(perWord*k + i) {
					break left
				}
			}
		}
	}
}

// so is a word in which each digit that is on, or off, is 1.
func so(word uint32, on bool) uint32 {
	if on {
		return word
	}
	return ^word
}

// ones yields the digits of a word that are 1, rising.
func ones(word uint32) iter.Seq[int] {
	return func(yield func(int) bool) {
		for rest := word; rest != 0; rest &= rest - 1 {
			if !yield(mathbits.TrailingZeros32(rest)) {
				return
			}
		}
	}
}
