package marks_test

import (
	"math"
	"slices"
	"testing"

	"selion/api"
	"selion/marks"
)

// The tests mark a block byte by byte and write limits as numbers, so that they
// hold the document's words against the program.

// far are numbers that nothing of a table or an extent may be; some are right ones, if they are cut short.
var far = []int{-1, -2, -8, -128, -4096, 1 << 31, 1 << 32, 1<<32 + 1, 1<<32 + 8, 1<<32 + 128, 1 << 52, 1 << 62, math.MaxInt, math.MaxInt - 7, math.MaxInt - 127, math.MinInt, math.MinInt + 1, math.MinInt + 8}

// good tells by the document's words whether an extent is right.
func good(at, n int) bool {
	return at >= 0 && at <= 4095 && at%8 == 0 && n >= 1 && n <= 2048 && at+n <= 4096
}

// marked is a table with a right extent marked, byte by byte.
func marked(t []int, at, n int) []int {
	out := slices.Clone(t)
	if n <= 128 {
		out[at/128] = 2
		return out
	}
	for i := at; i < at+n; i++ {
		if out[i/128] != 2 {
			out[i/128] = 1
		}
	}
	return out
}

// kept are the lines of a right table that are kept.
func kept(t []int) []int {
	var lines []int
	for line, number := range t {
		if number == 1 || number == 2 || line >= 1 && t[line-1] == 2 {
			lines = append(lines, line)
		}
	}
	return lines
}

// filled is a table whose lines all have one number.
func filled(number int) []int {
	return slices.Repeat([]int{number}, 32)
}

// mixed is a table with all numbers, each behind each.
func mixed() []int {
	return []int{0, 0, 1, 0, 2, 1, 1, 2, 2, 0, 2, 0, 0, 0, 1, 2, 0, 1, 0, 0, 2, 2, 1, 0, 0, 0, 2, 0, 1, 1, 0, 2}
}

// some are tables: those of one number, those with one line that has another one, and mixed ones.
func some() [][]int {
	all := [][]int{mixed(), append(mixed()[1:], 0), append(mixed()[16:], mixed()[:16]...)}
	for number := range 3 {
		all = append(all, filled(number))
		for line := range 32 {
			for other := range 3 {
				t := filled(number)
				t[line] = other
				all = append(all, t)
			}
		}
	}
	return all
}

// wrongs are lists that are no tables: of other lengths, and with one number that no line has.
func wrongs() [][]int {
	all := [][]int{nil, {}, make([]int, 1<<20)}
	for n := range 70 {
		if n != 32 {
			all = append(all, make([]int, n), slices.Repeat([]int{2}, n))
		}
	}
	for _, t := range [][]int{filled(0), filled(2), mixed()} {
		for line := range 32 {
			for _, number := range append([]int{3, 4, 5, 255, 256, 257}, far...) {
				other := slices.Clone(t)
				other[line] = number
				all = append(all, other)
			}
		}
	}
	return all
}

// holds holds all that is asked of a right table.
func holds(t *testing.T, table []int) {
	t.Helper()
	want := kept(table)
	if !marks.Right(table) || !slices.Equal(marks.Lines(table), want) || marks.Count(table) != len(want) {
		t.Fatal(table, marks.Right(table), marks.Lines(table), marks.Count(table))
	}
	for line := -40; line < 72; line++ {
		if marks.Kept(table, line) != slices.Contains(want, line) {
			t.Fatal(table, line, marks.Kept(table, line))
		}
	}
}

// spared is a list with spare room behind it that is to stay as it is.
func spared(t []int) []int {
	list := slices.Repeat([]int{7}, len(t)+40)
	copy(list, t)
	return list[:len(t)]
}

// untouched tells whether a spared list is still t, its spare room too.
func untouched(list, t []int) bool {
	room := list[len(list):cap(list)]
	return slices.Equal(list, t) && !slices.ContainsFunc(room, func(n int) bool { return n != 7 })
}

// scribble writes into a list and its spare room.
func scribble(list []int) {
	list = list[:cap(list)]
	for i := range list {
		list[i] = 9
	}
}

// P7.1

func TestMake(t *testing.T) {
	table := marks.Make()
	if !slices.Equal(table, filled(0)) {
		t.Error(table)
	}
	holds(t, table)
	scribble(table)
	if next := marks.Make(); !slices.Equal(next, filled(0)) {
		t.Error(next)
	}
}

func TestTables(t *testing.T) {
	for _, table := range some() {
		holds(t, table)
		for _, line := range append([]int{32, 33, 63, 64, 128, 4096}, far...) {
			if marks.Kept(table, line) {
				t.Fatal(table, line)
			}
		}
	}
}

// All numbers that lines beside each other may have, at all places of a table, the first and the last ones too.
func TestAllNeighbours(t *testing.T) {
	for around := range 3 {
		for first := range 29 {
			for numbers := range 81 {
				table := filled(around)
				for i, rest := 0, numbers; i < 4; i++ {
					table[first+i] = rest % 3
					rest /= 3
				}
				holds(t, table)
			}
		}
	}
}

// The line ahead is one of the same block: the last one keeps none, and nothing keeps the first one.
func TestKeptAtTheEnds(t *testing.T) {
	table := filled(0)
	table[31] = 2
	if marks.Kept(table, 0) || marks.Kept(table, 32) || !slices.Equal(marks.Lines(table), []int{31}) {
		t.Error(marks.Lines(table))
	}
	table[31], table[30] = 0, 2
	if !slices.Equal(marks.Lines(table), []int{30, 31}) {
		t.Error(marks.Lines(table))
	}
	// A line that is kept, but not marked, keeps none.
	table[30], table[5] = 0, 2
	if !slices.Equal(marks.Lines(table), []int{5, 6}) {
		t.Error(marks.Lines(table))
	}
	// One that was marked exactly keeps itself alone.
	table[5] = 1
	if !slices.Equal(marks.Lines(table), []int{5}) {
		t.Error(marks.Lines(table))
	}
}

func TestNoTables(t *testing.T) {
	for _, table := range wrongs() {
		if marks.Right(table) || len(marks.Lines(table)) != 0 || marks.Count(table) != 0 {
			t.Fatal(table, marks.Lines(table), marks.Count(table))
		}
		for _, line := range append([]int{0, 1, 2, 16, 30, 31, 32, 33}, far...) {
			if marks.Kept(table, line) {
				t.Fatal(table, line)
			}
		}
	}
}

func TestLinesSharesNothing(t *testing.T) {
	for _, table := range some() {
		list := spared(table)
		scribble(marks.Lines(list))
		marks.Right(list)
		marks.Count(list)
		marks.Kept(list, 3)
		if !untouched(list, table) {
			t.Fatal(table, list)
		}
		if !slices.Equal(marks.Lines(list), kept(table)) {
			t.Fatal(table)
		}
	}
}

// P7.2

func TestExamples(t *testing.T) {
	for _, x := range []struct {
		at, n int
		want  []int
	}{
		{120, 40, []int{0, 1}},
		{256, 300, []int{2, 3, 4}},
		{128, 8, []int{1, 2}},
		{120, 129, []int{0, 1}},
		{120, 137, []int{0, 1, 2}},
		{4088, 8, []int{31}},
		{4088, 1, []int{31}},
		{2048, 2048, []int{16, 17, 18, 19, 20, 21, 22, 23, 24, 25, 26, 27, 28, 29, 30, 31}},
		{8, 2048, []int{0, 1, 2, 3, 4, 5, 6, 7, 8, 9, 10, 11, 12, 13, 14, 15, 16}},
	} {
		table, e := marks.Mark(marks.Make(), x.at, x.n)
		if lines := marks.Lines(table); !slices.Equal(lines, x.want) || e != api.OK {
			t.Error(x, lines, e)
		}
	}
}

func TestMarkOfAllRightExtents(t *testing.T) {
	for at := 0; at < 4096; at += 8 {
		for n := 1; n <= 2048 && at+n <= 4096; n++ {
			table, e := marks.Mark(filled(0), at, n)
			if !slices.Equal(table, marked(filled(0), at, n)) || e != api.OK {
				t.Fatal(at, n, table, e)
			}
		}
	}
}

var sizes = []int{1, 7, 8, 9, 40, 120, 127, 128, 129, 130, 136, 255, 256, 257, 264, 384, 385, 1024, 2040, 2047, 2048}

func TestMarkInTablesThatAreMarked(t *testing.T) {
	for _, before := range some() {
		for at := 0; at < 4096; at += 56 {
			for _, n := range sizes {
				if !good(at, n) {
					continue
				}
				table, e := marks.Mark(before, at, n)
				if !slices.Equal(table, marked(before, at, n)) || e != api.OK {
					t.Fatal(before, at, n, table, e)
				}
			}
		}
	}
}

// A number never falls: a medium one leaves the 2 of a small one, a small one makes a medium one's 1 to 2.
func TestMarkOfBothClasses(t *testing.T) {
	small, _ := marks.Mark(marks.Make(), 128, 8)
	both, e := marks.Mark(small, 128, 200)
	if e != api.OK || both[1] != 2 || both[2] != 1 || small[2] != 0 {
		t.Error(both, e)
	}
	medium, _ := marks.Mark(marks.Make(), 128, 200)
	other, e := marks.Mark(medium, 128, 8)
	if e != api.OK || !slices.Equal(other, both) || medium[1] != 1 {
		t.Error(other, e)
	}
}

func refused(t *testing.T, at, n int) {
	t.Helper()
	table, e := marks.Mark(mixed(), at, n)
	if good(at, n) {
		if e != api.OK || !slices.Equal(table, marked(mixed(), at, n)) {
			t.Fatal(at, n, table, e)
		}
		return
	}
	if len(table) != 0 || e != api.ErrSize {
		t.Fatal(at, n, table, e)
	}
}

func TestMarkAroundRightExtents(t *testing.T) {
	for at := -140; at < 4240; at++ {
		for _, n := range append([]int{0, -1, -7, -8, 2049, 2050, 2056, 4096, 4097, 131072, 131073, 4095 - at, 4096 - at, 4097 - at, -at}, sizes...) {
			refused(t, at, n)
		}
	}
	for n := -140; n < 4240; n++ {
		for _, at := range []int{-128, -8, -4, -1, 0, 1, 4, 7, 8, 120, 128, 2040, 2047, 2048, 2049, 2056, 3968, 4080, 4087, 4088, 4089, 4095, 4096, 4104, 8192, 126976, 131064, 131072} {
			refused(t, at, n)
		}
	}
}

// Some of these sum up to a right end, by numbers below 0 or by a wrap-round.
func TestMarkOfFarNumbers(t *testing.T) {
	for _, one := range far {
		for _, other := range append([]int{0, 1, 8, 128, 129, 2048, 4088, 4095, 4096, 131072}, far...) {
			refused(t, one, other)
			refused(t, other, one)
			refused(t, one, other-one)
			refused(t, other-one, one)
		}
	}
}

func TestMarkInNoTable(t *testing.T) {
	for _, table := range wrongs() {
		for _, x := range [][2]int{{0, 8}, {256, 300}, {4088, 8}, {-1, 0}, {4, 8}, {0, 2049}, {4096, 8}, {8, math.MaxInt}} {
			if out, e := marks.Mark(table, x[0], x[1]); len(out) != 0 || e != api.ErrTable {
				t.Fatal(table, x, out, e)
			}
		}
	}
}

func TestMarkSharesNothing(t *testing.T) {
	for _, table := range some() {
		for _, x := range [][2]int{{0, 8}, {120, 40}, {256, 300}, {2048, 2048}, {4088, 8}, {4, 8}} {
			list := spared(table)
			out, _ := marks.Mark(list, x[0], x[1])
			if !untouched(list, table) {
				t.Fatal(table, x, list)
			}
			scribble(out)
			if !untouched(list, table) {
				t.Fatal(table, x, list)
			}
		}
	}
}

func TestMergeOfAllNumbers(t *testing.T) {
	greater := [3][3]int{{0, 1, 2}, {1, 1, 2}, {2, 2, 2}}
	tables := some()
	for i, a := range tables {
		for _, b := range tables[i%5:] {
			want := make([]int, 32)
			for line := range 32 {
				want[line] = greater[a[line]][b[line]]
			}
			if out, e := marks.Merge(a, b); !slices.Equal(out, want) || e != api.OK {
				t.Fatal(a, b, out, e)
			}
		}
	}
}

func TestMergeOfNoTables(t *testing.T) {
	for _, table := range wrongs() {
		for _, pair := range [][2][]int{{table, filled(0)}, {filled(0), table}, {table, mixed()}, {mixed(), table}, {table, table}, {table, nil}, {nil, table}} {
			if out, e := marks.Merge(pair[0], pair[1]); len(out) != 0 || e != api.ErrTable {
				t.Fatal(pair, out, e)
			}
		}
	}
}

func TestMergeSharesNothing(t *testing.T) {
	for _, table := range some() {
		for _, other := range [][]int{filled(0), filled(2), mixed()} {
			a, b := spared(table), spared(other)
			out, _ := marks.Merge(a, b)
			if !untouched(a, table) || !untouched(b, other) {
				t.Fatal(table, other, a, b)
			}
			scribble(out)
			if !untouched(a, table) || !untouched(b, other) {
				t.Fatal(table, other, a, b)
			}
		}
	}
}

// P7.3

func TestLinesOfExtentsAreKept(t *testing.T) {
	for at := 0; at < 4096; at += 8 {
		for _, n := range sizes {
			if !good(at, n) {
				continue
			}
			table, _ := marks.Mark(marks.Make(), at, n)
			for _, x := range [][2]int{{0, 8}, {128, 2048}, {2048, 2048}, {4088, 8}} {
				for i := at; i < at+n; i++ {
					if !marks.Kept(table, i/128) {
						t.Fatal(at, n, i, table)
					}
				}
				table, _ = marks.Mark(table, x[0], x[1])
			}
		}
	}
}

// orders calls do with all orders of extents.
func orders(extents [][2]int, from int, do func([][2]int)) {
	if from == len(extents) {
		do(extents)
		return
	}
	for i := from; i < len(extents); i++ {
		extents[from], extents[i] = extents[i], extents[from]
		orders(extents, from+1, do)
		extents[from], extents[i] = extents[i], extents[from]
	}
}

func markedAll(t *testing.T, extents [][2]int) []int {
	t.Helper()
	table := marks.Make()
	for _, x := range extents {
		next, e := marks.Mark(table, x[0], x[1])
		if e != api.OK {
			t.Fatal(x, e)
		}
		table = next
	}
	return table
}

func TestOrderIsNothing(t *testing.T) {
	for _, extents := range [][][2]int{
		{{0, 8}, {0, 129}, {64, 300}, {128, 8}, {384, 128}, {504, 2048}},
		{{128, 200}, {128, 8}, {128, 128}, {128, 129}, {120, 136}, {248, 264}},
		{{3968, 128}, {3840, 256}, {3840, 128}, {4088, 8}, {2048, 2048}, {3712, 300}},
	} {
		want := markedAll(t, extents)
		orders(slices.Clone(extents), 0, func(order [][2]int) {
			if table := markedAll(t, order); !slices.Equal(table, want) {
				t.Fatal(order, table, want)
			}
			// In two parts, merged, it is the same one, too.
			for i := range len(order) + 1 {
				table, e := marks.Merge(markedAll(t, order[:i]), markedAll(t, order[i:]))
				if !slices.Equal(table, want) || e != api.OK {
					t.Fatal(order, i, table, e)
				}
			}
		})
		// Marked once more, nothing is another.
		if table := markedAll(t, append(slices.Clone(extents), extents...)); !slices.Equal(table, want) {
			t.Fatal(table, want)
		}
	}
}
