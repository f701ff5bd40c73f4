package addr

import (
	"iter"

	"selion/api"
)

// place is an address by its numbers: its block, its line in that, its byte in that.
type place [3]int

// Where each number of a place stands.
const (
	inArena = iota
	inBlock
	inLine
)

// units tell how many bytes one of each number of a place is worth.
var units = [3]int{api.Block, api.Line, 1}

// numbers yields an address's numbers, each with where it stands in a place.
func numbers(a int) iter.Seq2[int, int] {
	return func(yield func(int, int) bool) {
		rest := a
		for i, unit := range units {
			if !yield(i, rest/unit) {
				return
			}
			rest %= unit
		}
	}
}

func placeOf(a int) place {
	var p place
	for i, n := range numbers(a) {
		p[i] = n
	}
	return p
}

// sum is the address of a place, or just some number if it is none.
func (p place) sum() int {
	a := 0
	for i, unit := range units {
		a += p[i] * unit
	}
	return a
}

// lineOf is the line of the arena that an address lies in.
func lineOf(a int) int {
	line := 0
ahead:
	for i, n := range numbers(a) {
		switch i {
		case inLine:
			break ahead
		default:
			line = line*api.Lines + n
		}
	}
	return line
}
