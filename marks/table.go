package marks

import (
	"iter"

	"selion/api"
)

// table are the numbers of a block's lines. Its methods, but right, are for one
// that is right, and for lines that are there.
type table []int

func (t table) right() bool {
	if len(t) != api.Lines {
		return false
	}
	for line := range api.Lines {
		if t[line] < api.LineFree || t[line] > api.LineSmall {
			return false
		}
	}
	return true
}

// keeps tells whether a line is kept. A small one that begins in the line ahead
// may go on into this one: where it ends, nobody looks.
func (t table) keeps(line int) bool {
	return t[line] != api.LineFree || line > 0 && t[line-1] == api.LineSmall
}

// raise makes a line's number n, unless that is greater already: in whatever
// order lines are raised, the table is the same.
func (t table) raise(line int, n int) {
	t[line] = max(t[line], n)
}

// onward yields the lines from one on, rising.
func (t table) onward(first int) iter.Seq[int] {
	return func(yield func(int) bool) {
		for i := range len(t) - first {
			if !yield(first + i) {
				return
			}
		}
	}
}

// kept yields the lines that are kept, rising.
func (t table) kept(yield func(int) bool) {
	for line := range t.onward(0) {
		if t.keeps(line) && !yield(line) {
			return
		}
	}
}
