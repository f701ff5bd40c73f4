package marks

import (
	"selion/addr"
	"selion/api"
)

// extent is a right one: its size's class, and the first and the last line that
// it has bytes in.
type extent struct {
	class int
	first int
	last  int
}

// extentOf takes the block for the first one of the arena, whose addresses and
// lines have the same numbers as the block's bytes and lines.
func extentOf(at int, n int) (extent, error) {
	class, e := addr.Class(n)
	if e != api.OK || class == api.Large {
		return extent{}, errSize
	}
	first, last, e := addr.Span(at, n)
	if e != api.OK || last >= api.Lines || at%api.Granule != 0 {
		return extent{}, errSize
	}
	return extent{class, first, last}, nil
}

// marker marks extents in a table that nobody else has.
type marker struct {
	table
}

func markerOf(t []int) marker {
	m := marker{Make()}
	copy(m.table, t)
	return m
}

func (m marker) mark(extents ...extent) {
	do := m.classes()
	for _, x := range extents {
		do[x.class](x)
	}
}

// classes tell what an extent of each class that may be marked marks.
func (m marker) classes() map[int]func(extent) {
	return map[int]func(extent){
		api.Small:  func(x extent) { m.raise(x.first, api.LineSmall) },
		api.Medium: func(x extent) { m.raiseAll(x, api.LineExact) },
	}
}

// raiseAll raises each line that an extent has bytes in.
func (m marker) raiseAll(x extent, n int) {
raising:
	for line := range m.onward(x.first) {
		switch {
		case line > x.last:
			break raising
		default:
			m.raise(line, n)
		}
	}
}
