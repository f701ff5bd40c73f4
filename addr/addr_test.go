package addr_test

import (
	"math"
	"testing"

	"selion/addr"
	"selion/api"
)

// The tests count what they want in loops of their own and write limits as
// numbers, so that they hold the document's words against the program.

var noAddresses = []int{-1, -8, -128, -4096, 131072, 131073, 135168, 1 << 32, 1 << 52, math.MinInt, math.MinInt + 8, math.MaxInt, math.MaxInt - 7}

// eachPlace counts through all addresses with their blocks, lines and bytes.
func eachPlace(do func(a, block, line, at int)) {
	a := 0
	for block := range 32 {
		for line := range 32 {
			for at := range 128 {
				do(a, block, line, at)
				a++
			}
		}
	}
}

// P1.1

func TestRightAndSplitOfAddresses(t *testing.T) {
	eachPlace(func(a, block, line, at int) {
		b, l, i, e := addr.Split(a)
		if !addr.Right(a) || b != block || l != line || i != at || e != api.OK {
			t.Fatal(a, addr.Right(a), b, l, i, e)
		}
	})
	if b, l, i, e := addr.Split(8580); b != 2 || l != 3 || i != 4 || e != api.OK {
		t.Error(b, l, i, e)
	}
}

func TestRightAndSplitOfOtherNumbers(t *testing.T) {
	for _, a := range noAddresses {
		b, l, i, e := addr.Split(a)
		if addr.Right(a) || b != 0 || l != 0 || i != 0 || e != api.ErrAddr {
			t.Error(a, addr.Right(a), b, l, i, e)
		}
	}
}

func TestJoinAroundPlaces(t *testing.T) {
	for block := -2; block < 35; block++ {
		for line := -2; line < 35; line++ {
			for at := -2; at < 131; at++ {
				in := block >= 0 && block <= 31 && line >= 0 && line <= 31 && at >= 0 && at <= 127
				a, e := addr.Join(block, line, at)
				if in && (a != 4096*block+128*line+at || e != api.OK) || !in && (a != 0 || e != api.ErrAddr) {
					t.Fatal(block, line, at, a, e)
				}
			}
		}
	}
}

// Some of these sum up to an address, by numbers below 0 or by a wrap-round.
func TestJoinOfWrongNumbers(t *testing.T) {
	wrong := []int{-131072, -4096, -128, -1, 128, 4096, 131071, 131072, 1 << 32, 1 << 52, 1 << 57, 1<<52 + 1, 1<<57 + 3, -1 << 52, -1 << 57, math.MinInt, math.MaxInt}
	refuse := func(block, line, at int) {
		if a, e := addr.Join(block, line, at); a != 0 || e != api.ErrAddr {
			t.Error(block, line, at, a, e)
		}
	}
	others := append([]int{0, 1, 31}, wrong...)
	for _, x := range wrong {
		for _, y := range others {
			for _, z := range others {
				refuse(x, y, z)
				refuse(y, x, z)
				refuse(y, z, x)
			}
		}
	}
}

func TestSpan(t *testing.T) {
	var lines [131072]int
	eachPlace(func(a, block, line, at int) { lines[a] = 32*block + line })
	starts := []int{0, 1, 127, 128, 129, 255, 3968, 4095, 4096, 4097, 8580, 65535, 65536, 126976, 130943, 130944, 131070, 131071}
	for _, a := range starts {
		for n := 1; a+n <= 131072; n++ {
			from, to, e := addr.Span(a, n)
			if from != lines[a] || to != lines[a+n-1] || e != api.OK {
				t.Fatal(a, n, from, to, e)
			}
		}
	}
	eachPlace(func(a, block, line, at int) {
		from, to, e := addr.Span(a, 1)
		if from != lines[a] || to != lines[a] || e != api.OK {
			t.Fatal(a, from, to, e)
		}
		from, to, e = addr.Span(a, 131072-a)
		if from != lines[a] || to != 1023 || e != api.OK {
			t.Fatal(a, from, to, e)
		}
	})
}

func TestSpanOfWrongNumbers(t *testing.T) {
	refuse := func(a, n int) {
		if from, to, e := addr.Span(a, n); from != 0 || to != 0 || e != api.ErrAddr {
			t.Error(a, n, from, to, e)
		}
	}
	for _, a := range noAddresses {
		for _, n := range []int{1, 2, 9, 131072, -a, 1 - a, math.MaxInt, math.MinInt, 0, -1} {
			refuse(a, n)
		}
	}
	for _, a := range []int{0, 1, 128, 4096, 131070, 131071} {
		for _, n := range []int{0, -1, -a, -a - 1, -131072, 131073 - a, 131074 - a, 1 << 32, math.MaxInt - a, math.MaxInt, math.MinInt, math.MinInt + 1} {
			refuse(a, n)
		}
	}
}

// P1.2

func TestRoundClassAndBlocksOfSizes(t *testing.T) {
	round, blocks := 0, 0
	for n := 1; n <= 131072; n++ {
		if round < n {
			round += 8
		}
		if 4096*blocks < n {
			blocks++
		}
		class := 3
		if n <= 128 {
			class = 1
		} else if n <= 2048 {
			class = 2
		}
		r, e := addr.Round(n)
		c, f := addr.Class(n)
		b, g := addr.Blocks(n)
		if r != round || c != class || b != blocks || e != api.OK || f != api.OK || g != api.OK {
			t.Fatal(n, r, e, c, f, b, g)
		}
	}
}

func TestClassAtTheEdges(t *testing.T) {
	for n, want := range map[int]int{1: api.Small, 128: api.Small, 129: api.Medium, 2048: api.Medium, 2049: api.Large, 131072: api.Large} {
		if c, e := addr.Class(n); c != want || e != api.OK {
			t.Error(n, c, e)
		}
	}
}

func TestRoundClassAndBlocksOfOtherNumbers(t *testing.T) {
	for _, n := range []int{0, -1, -7, -8, -128, -4096, 131073, 131080, 135168, 1 << 32, math.MaxInt, math.MaxInt - 7, math.MinInt, math.MinInt + 1} {
		r, e := addr.Round(n)
		c, f := addr.Class(n)
		b, g := addr.Blocks(n)
		if r != 0 || c != 0 || b != 0 || e != api.ErrSize || f != api.ErrSize || g != api.ErrSize {
			t.Error(n, r, e, c, f, b, g)
		}
	}
}

func TestRef(t *testing.T) {
	ref := 0
	for a := range 131072 {
		if a%8 == 0 {
			ref++
			if r, e := addr.Ref(a); r != ref || e != api.OK {
				t.Fatal(a, r, e)
			}
		} else if r, e := addr.Ref(a); r != 0 || e != api.ErrAddr {
			t.Fatal(a, r, e)
		}
	}
	for _, a := range noAddresses {
		if r, e := addr.Ref(a); r != 0 || e != api.ErrAddr {
			t.Error(a, r, e)
		}
	}
}

func TestAddr(t *testing.T) {
	want := 0
	for ref := 1; ref <= 16384; ref++ {
		if a, e := addr.Addr(ref); a != want || e != api.OK {
			t.Fatal(ref, a, e)
		}
		want += 8
	}
	for _, ref := range []int{0, -1, -8, 16385, 131072, 1 << 32, 1<<61 + 1, 1 << 62, math.MaxInt, math.MinInt, math.MinInt + 1} {
		if a, e := addr.Addr(ref); a != 0 || e != api.ErrRef {
			t.Error(ref, a, e)
		}
	}
}

// P1.3

func TestSplitIsJoinedAgain(t *testing.T) {
	for a := range 131072 {
		block, line, at, e := addr.Split(a)
		if back, f := addr.Join(block, line, at); back != a || e != api.OK || f != api.OK {
			t.Fatal(a, block, line, at, e, back, f)
		}
	}
	eachPlace(func(_, block, line, at int) {
		a, e := addr.Join(block, line, at)
		if b, l, i, f := addr.Split(a); b != block || l != line || i != at || e != api.OK || f != api.OK {
			t.Fatal(block, line, at, a, e, b, l, i, f)
		}
	})
}

func TestReferencesAreOneToOne(t *testing.T) {
	had := map[int]bool{}
	for a := 0; a < 131072; a += 8 {
		ref, e := addr.Ref(a)
		if back, f := addr.Addr(ref); back != a || e != api.OK || f != api.OK || ref == 0 || had[ref] {
			t.Fatal(a, ref, e, back, f)
		}
		had[ref] = true
	}
	for ref := 1; ref <= 16384; ref++ {
		a, e := addr.Addr(ref)
		if back, f := addr.Ref(a); back != ref || e != api.OK || f != api.OK || !had[ref] {
			t.Fatal(ref, a, e, back, f)
		}
	}
}
