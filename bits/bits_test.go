package bits_test

import (
	"math"
	"slices"
	"testing"

	"selion/api"
	"selion/bits"
)

// The tests hold the program against a model of one bool a place, and write
// limits as numbers, so that the document's words are what is asked for.

var counts = []int{0, 1, 2, 31, 32, 33, 40, 63, 64, 65, 96, 97, 1024, 16384, 19968, 19969, 19999, 20000}

var noCounts = []int{-1, -31, -32, -20000, 20001, 20032, 1 << 31, 1 << 32, 1<<32 + 5, math.MaxInt, math.MaxInt - 31, math.MinInt, math.MinInt + 1}

// packed are the bits of a model, place by place.
func packed(model []bool) api.Bits {
	b := api.Bits{N: len(model)}
	for i, on := range model {
		if i%32 == 0 {
			b.Words = append(b.Words, 0)
		}
		if on {
			b.Words[i/32] += 1 << (i % 32)
		}
	}
	return b
}

// models are some of n places: none, all, one in three, whole words alone, and ends alone.
func models(n int) [][]bool {
	kinds := []func(i int) bool{
		func(int) bool { return false },
		func(int) bool { return true },
		func(i int) bool { return i%3 == 1 },
		func(i int) bool { return i/32%2 == 1 },
		func(i int) bool { return i == 0 || i == n-1 },
		func(i int) bool { return i%32 == 31 || i%97 == 5 },
	}
	var all [][]bool
	for _, on := range kinds {
		model := make([]bool, n)
		for i := range model {
			model[i] = on(i)
		}
		all = append(all, model)
	}
	return all
}

// eachModel gives all models of n places, with their bits.
func eachModel(n int, do func(model []bool, b api.Bits)) {
	for _, model := range models(n) {
		do(model, packed(model))
	}
}

// equal tells by fields alone whether bits are those of a model.
func equal(b api.Bits, model []bool) bool {
	want := packed(model)
	return b.N == want.N && slices.Equal(b.Words, want.Words)
}

// edges are places around the ends of n places and of their words.
func edges(n int) []int {
	all := []int{math.MinInt, math.MinInt + 31, -1 << 32, -33, -32, -1, 0, 1, 30, 31, 32, 33, 63, 64, 65, n / 2, n - 33, n - 32, n - 31, n - 2, n - 1, n, n + 1, n + 31, n + 32, 20000, 20001, 1 << 32, 1<<32 + 1, math.MaxInt - 31, math.MaxInt}
	slices.Sort(all)
	return slices.Compact(all)
}

// wrongs are bits that are not right, each by another reason.
func wrongs() []api.Bits {
	all := []api.Bits{
		{N: 0, Words: []uint32{0}},
		{N: 1},
		{N: 1, Words: []uint32{0, 0}},
		{N: 1, Words: []uint32{3}},
		{N: 31, Words: []uint32{1 << 31}},
		{N: 32},
		{N: 32, Words: []uint32{1, 0}},
		{N: 33, Words: []uint32{1}},
		{N: 33, Words: []uint32{1, 2}},
		{N: 33, Words: []uint32{1, 1, 0}},
		{N: 40, Words: []uint32{7, 1 << 8}},
		{N: 40, Words: []uint32{7, 1 << 31}},
		{N: 64, Words: []uint32{1, 1, 1}},
		{N: 20000, Words: make([]uint32, 624)},
		{N: 20000, Words: make([]uint32, 626)},
		{N: 20001, Words: make([]uint32, 626)},
		{N: 20032, Words: make([]uint32, 626)},
		{N: 19999, Words: append(make([]uint32, 624), 1<<31)},
	}
	for _, n := range noCounts {
		all = append(all, api.Bits{N: n}, api.Bits{N: n, Words: []uint32{1}}, api.Bits{N: n, Words: []uint32{0, 0}})
	}
	return all
}

// none tells whether bits are the zero value.
func none(b api.Bits) bool {
	return b.N == 0 && len(b.Words) == 0
}

// P2.1

func TestMake(t *testing.T) {
	words := 0
	for n := 0; n <= 20000; n++ {
		if 32*words < n {
			words++
		}
		b, e := bits.Make(n)
		if b.N != n || len(b.Words) != words || e != api.OK || slices.Max(append(b.Words, 0)) != 0 {
			t.Fatal(n, b.N, len(b.Words), e)
		}
	}
	for _, n := range noCounts {
		if b, e := bits.Make(n); !none(b) || e != api.ErrArg {
			t.Error(n, b.N, e)
		}
	}
}

func TestRight(t *testing.T) {
	for _, n := range counts {
		eachModel(n, func(_ []bool, b api.Bits) {
			if !bits.Right(b) {
				t.Error(n)
			}
		})
	}
	if !bits.Right(api.Bits{}) || !bits.Right(api.Bits{Words: []uint32{}}) {
		t.Error("no places are right bits")
	}
	for i, b := range wrongs() {
		if bits.Right(b) {
			t.Error(i, b.N)
		}
	}
}

func TestRightOfEachSpareDigit(t *testing.T) {
	for n := 1; n <= 100; n++ {
		for at := range 32 * ((n + 31) / 32) {
			b := api.Bits{N: n, Words: make([]uint32, (n+31)/32)}
			b.Words[at/32] = 1 << (at % 32)
			if bits.Right(b) != (at < n) {
				t.Error(n, at)
			}
		}
	}
}

func TestHas(t *testing.T) {
	for _, n := range counts {
		eachModel(n, func(model []bool, b api.Bits) {
			for i, on := range model {
				if bits.Has(b, i) != on {
					t.Fatal(n, i, on)
				}
			}
			for _, i := range edges(n) {
				if (i < 0 || i >= n) && bits.Has(b, i) {
					t.Error(n, i)
				}
			}
		})
	}
	for k, b := range wrongs() {
		for _, i := range []int{0, 1, 2, 32, 40, 63, -1, math.MinInt, math.MaxInt} {
			if bits.Has(b, i) {
				t.Error(k, i)
			}
		}
	}
}

func TestCountAndList(t *testing.T) {
	for _, n := range counts {
		eachModel(n, func(model []bool, b api.Bits) {
			var want []int
			for i, on := range model {
				if on {
					want = append(want, i)
				}
			}
			if c, list := bits.Count(b), bits.List(b); c != len(want) || !slices.Equal(list, want) {
				t.Error(n, c, len(list), len(want))
			}
		})
	}
	for i, b := range wrongs() {
		if c, list := bits.Count(b), bits.List(b); c != 0 || len(list) != 0 {
			t.Error(i, c, list)
		}
	}
}

func TestSame(t *testing.T) {
	all := append(wrongs(), api.Bits{}, api.Bits{N: 32, Words: []uint32{1}}, api.Bits{N: 33, Words: []uint32{1, 0}}, api.Bits{N: 33, Words: []uint32{0, 1}}, api.Bits{N: 34, Words: []uint32{1, 0}}, api.Bits{N: 65, Words: []uint32{1, 0, 1}}, api.Bits{N: 65, Words: []uint32{1, 1, 1}})
	for i, a := range all {
		for k, b := range all {
			copied := api.Bits{N: b.N, Words: append([]uint32{}, b.Words...)}
			if bits.Same(a, copied) != (i == k) {
				t.Error(i, k, a.N, b.N)
			}
		}
	}
}

func TestSameOfEachDigit(t *testing.T) {
	for at := range 96 {
		a, b := api.Bits{N: 96, Words: make([]uint32, 3)}, api.Bits{N: 96, Words: make([]uint32, 3)}
		b.Words[at/32] = 1 << (at % 32)
		if bits.Same(a, b) || bits.Same(b, a) {
			t.Error(at)
		}
	}
}

// P2.2 and P2.3

func TestSetTurnsThatPlaceAlone(t *testing.T) {
	for _, n := range counts {
		eachModel(n, func(model []bool, b api.Bits) {
			for _, i := range edges(n) {
				for _, on := range []bool{true, false} {
					got, e := bits.Set(b, i, on)
					if i < 0 || i >= n {
						if !none(got) || e != api.ErrPlace {
							t.Error(n, i, on, got.N, e)
						}
						continue
					}
					want := slices.Clone(model)
					want[i] = on
					if !equal(got, want) || !bits.Right(got) || bits.Has(got, i) != on || e != api.OK {
						t.Error(n, i, on, e)
					}
				}
			}
		})
	}
}

func TestSetOfEachPlace(t *testing.T) {
	eachModel(100, func(model []bool, b api.Bits) {
		for i := range 100 {
			for _, on := range []bool{true, false} {
				want := slices.Clone(model)
				want[i] = on
				if got, e := bits.Set(b, i, on); !equal(got, want) || e != api.OK {
					t.Error(i, on, got, e)
				}
			}
		}
	})
}

func TestFillTurnsThesePlacesAlone(t *testing.T) {
	for _, n := range []int{0, 1, 31, 32, 33, 40, 64, 65, 97, 20000} {
		eachModel(n, func(model []bool, b api.Bits) {
			for _, from := range edges(n) {
				for _, to := range edges(n) {
					for _, on := range []bool{true, false} {
						got, e := bits.Fill(b, from, to, on)
						if from < 0 || to < from || to > n {
							if !none(got) || e != api.ErrPlace {
								t.Error(n, from, to, on, got.N, e)
							}
							continue
						}
						want := slices.Clone(model)
						for i := from; i < to; i++ {
							want[i] = on
						}
						if !equal(got, want) || !bits.Right(got) || e != api.OK {
							t.Error(n, from, to, on, e)
						}
					}
				}
			}
		})
	}
}

func TestFillOfAllSpans(t *testing.T) {
	eachModel(70, func(model []bool, b api.Bits) {
		for from := range 71 {
			for to := from; to <= 70; to++ {
				for _, on := range []bool{true, false} {
					want := slices.Clone(model)
					for i := from; i < to; i++ {
						want[i] = on
					}
					if got, e := bits.Fill(b, from, to, on); !equal(got, want) || e != api.OK {
						t.Error(from, to, on, got, e)
					}
				}
			}
		}
	})
}

func TestFillOfTheExample(t *testing.T) {
	b, e := bits.Make(40)
	b, f := bits.Fill(b, 30, 34, true)
	if e != api.OK || f != api.OK || b.N != 40 || !slices.Equal(b.Words, []uint32{3221225472, 3}) {
		t.Error(e, f, b)
	}
	if i, ok := bits.Next(b, 0, true); i != 30 || !ok {
		t.Error(i, ok)
	}
	if i, ok := bits.Next(b, 30, false); i != 34 || !ok {
		t.Error(i, ok)
	}
}

// next is the model's next place that is so.
func next(model []bool, from int, on bool) (int, bool) {
	for i := max(from, 0); i < len(model); i++ {
		if model[i] == on {
			return i, true
		}
	}
	return 0, false
}

func TestNext(t *testing.T) {
	for _, n := range counts {
		froms := edges(n)
		if n <= 100 {
			for i := range n {
				froms = append(froms, i)
			}
		}
		eachModel(n, func(model []bool, b api.Bits) {
			for _, from := range froms {
				for _, on := range []bool{true, false} {
					i, ok := bits.Next(b, from, on)
					if want, so := next(model, from, on); i != want || ok != so {
						t.Error(n, from, on, i, ok)
					}
				}
			}
		})
	}
	for k, b := range wrongs() {
		for _, from := range []int{-1, 0, 1, 31, 32, math.MinInt, math.MaxInt} {
			for _, on := range []bool{true, false} {
				if i, ok := bits.Next(b, from, on); i != 0 || ok {
					t.Error(k, from, on, i, ok)
				}
			}
		}
	}
}

func TestFromOneNextToTheNextAllAreMet(t *testing.T) {
	for _, n := range counts {
		eachModel(n, func(model []bool, b api.Bits) {
			for _, on := range []bool{true, false} {
				met := make([]bool, n)
				for i, ok := bits.Next(b, 0, on); ok; i, ok = bits.Next(b, i+1, on) {
					if met[i] {
						t.Fatal(n, on, i, "is met twice")
					}
					met[i] = true
				}
				for i := range n {
					if met[i] != (model[i] == on) {
						t.Fatal(n, on, i, met[i])
					}
				}
			}
		})
	}
}

func TestEither(t *testing.T) {
	for _, n := range counts {
		for _, x := range models(n) {
			for _, y := range models(n) {
				want := make([]bool, n)
				for i := range want {
					want[i] = x[i] || y[i]
				}
				if got, e := bits.Either(packed(x), packed(y)); !equal(got, want) || e != api.OK {
					t.Error(n, e)
				}
			}
		}
	}
}

func TestEitherOfTwoThatAreNotAsMany(t *testing.T) {
	for _, n := range counts {
		for _, m := range counts {
			a, b := packed(models(n)[2]), packed(models(m)[2])
			if got, e := bits.Either(a, b); n != m && (!none(got) || e != api.ErrBits) {
				t.Error(n, m, got.N, e)
			}
		}
	}
}

// Wrong bits come ahead of wrong places.
func TestChangesOfWrongBits(t *testing.T) {
	for k, b := range wrongs() {
		for _, i := range []int{-1, 0, 1, 33, 20000, math.MinInt, math.MaxInt} {
			if got, e := bits.Set(b, i, true); !none(got) || e != api.ErrBits {
				t.Error(k, i, got.N, e)
			}
			for _, to := range []int{-1, 0, 1, 33, 20000, math.MinInt, math.MaxInt} {
				if got, e := bits.Fill(b, i, to, true); !none(got) || e != api.ErrBits {
					t.Error(k, i, to, got.N, e)
				}
			}
		}
	}
}

func TestEitherOfWrongBits(t *testing.T) {
	right := []api.Bits{{}, {N: 1, Words: []uint32{1}}, {N: 33, Words: []uint32{1, 1}}, {N: 40, Words: []uint32{1, 1}}, {N: 20000, Words: make([]uint32, 625)}}
	for k, b := range wrongs() {
		for _, a := range append(right, b) {
			got, e := bits.Either(a, b)
			back, f := bits.Either(b, a)
			if !none(got) || !none(back) || e != api.ErrBits || f != api.ErrBits {
				t.Error(k, a.N, e, f)
			}
		}
	}
}

// R3: what is handed in, with its spare room, stays, and shares nothing with what is answered.

// changes are the calls that answer bits made of others, here of 40 places.
var changes = map[string]func(b api.Bits) (api.Bits, api.Errno){
	"Set on":           func(b api.Bits) (api.Bits, api.Errno) { return bits.Set(b, 33, true) },
	"Set off":          func(b api.Bits) (api.Bits, api.Errno) { return bits.Set(b, 0, false) },
	"Set as it is":     func(b api.Bits) (api.Bits, api.Errno) { return bits.Set(b, 0, true) },
	"Fill on":          func(b api.Bits) (api.Bits, api.Errno) { return bits.Fill(b, 0, 40, true) },
	"Fill off":         func(b api.Bits) (api.Bits, api.Errno) { return bits.Fill(b, 0, 40, false) },
	"Fill nothing":     func(b api.Bits) (api.Bits, api.Errno) { return bits.Fill(b, 7, 7, true) },
	"Either":           func(b api.Bits) (api.Bits, api.Errno) { return bits.Either(b, packed(make([]bool, 40))) },
	"Either, second":   func(b api.Bits) (api.Bits, api.Errno) { return bits.Either(packed(make([]bool, 40)), b) },
	"Either of itself": func(b api.Bits) (api.Bits, api.Errno) { return bits.Either(b, b) },
}

func TestChangesAnswerNewMemory(t *testing.T) {
	for name, change := range changes {
		whole := []uint32{1, 4, 77, 78}
		got, e := change(api.Bits{N: 40, Words: whole[:2]})
		room := got.Words[:cap(got.Words)]
		for k := range room {
			room[k] = 99
		}
		if e != api.OK || !slices.Equal(whole, []uint32{1, 4, 77, 78}) {
			t.Error(name, e, whole)
		}
	}
}

func TestAskingChangesNothing(t *testing.T) {
	whole := []uint32{1, 4, 77, 78}
	b := api.Bits{N: 40, Words: whole[:2]}
	for range 2 {
		list := bits.List(b)
		i, ok := bits.Next(b, 1, true)
		if !bits.Right(b) || !bits.Has(b, 34) || bits.Count(b) != 2 || !slices.Equal(list, []int{0, 34}) || i != 34 || !ok || !bits.Same(b, b) {
			t.Error(list, i, ok)
		}
		list[0] = 5
	}
	if !slices.Equal(whole, []uint32{1, 4, 77, 78}) {
		t.Error(whole)
	}
}
