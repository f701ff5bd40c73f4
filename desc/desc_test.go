package desc_test

import (
	"math"
	"regexp"
	"slices"
	"strconv"
	"strings"
	"testing"

	"selion/api"
	"selion/desc"
)

// The tests lay each object out byte by byte, read texts by a pattern, and write
// limits as numbers, so that they hold the document's words against the program.

var far = []int{-1, -2, -4, -8, -131072, 131072, 131076, 1 << 31, 1 << 32, 1<<32 + 4, 1 << 52, 1 << 56, 1 << 60, 1<<60 + 1, 1 << 61, 1 << 62, math.MaxInt - 7, math.MaxInt - 3, math.MaxInt, math.MinInt, math.MinInt + 4, math.MinInt + 8}

// every is every step-th multiple of 4 from one on, below another one.
func every(from, below, step int) []int {
	var list []int
	for p := from; p < below; p += 4 * step {
		list = append(list, p)
	}
	return list
}

// subsets are all lists of rising multiples of 4 below one.
func subsets(below int) [][]int {
	all := [][]int{nil}
	for p := 0; p < below; p += 4 {
		for _, list := range all[:len(all):len(all)] {
			all = append(all, append(slices.Clone(list), p))
		}
	}
	return all
}

// small are all right descriptors of at most three words a part.
func small() []api.Desc {
	var all []api.Desc
	for size := 0; size <= 12; size += 4 {
		for _, ptrs := range subsets(size) {
			for elem := 0; elem <= 12; elem += 4 {
				for _, elemPtrs := range subsets(elem) {
					all = append(all, api.Desc{Size: size, Ptrs: ptrs, Elem: elem, ElemPtrs: elemPtrs})
				}
			}
		}
	}
	return all
}

// great are right descriptors at the limits.
func great() []api.Desc {
	return []api.Desc{
		{Size: 1024},
		{Elem: 256},
		{Size: 1024, Elem: 256},
		{Size: 1024, Ptrs: every(0, 1024, 1), Elem: 256, ElemPtrs: every(0, 256, 1)},
		{Size: 1024, Ptrs: []int{1020}, Elem: 256, ElemPtrs: []int{252}},
		{Size: 1024, Ptrs: []int{0}, Elem: 252, ElemPtrs: []int{0}},
		{Size: 1020, Ptrs: every(4, 1020, 3), Elem: 100, ElemPtrs: every(8, 100, 2)},
		{Size: 100, Ptrs: []int{}, Elem: 12, ElemPtrs: []int{0, 8}},
		{Size: 8, Ptrs: []int{4}, Elem: 12, ElemPtrs: []int{0, 8}},
		{Size: 516, Ptrs: every(0, 516, 5), Elem: 0, ElemPtrs: []int{}},
	}
}

// wrongs are descriptors that are not right, each by another reason.
func wrongs() []api.Desc {
	all := []api.Desc{
		{Size: 8, Ptrs: []int{8}},
		{Size: 8, Ptrs: []int{0, 4, 8}},
		{Size: 8, Ptrs: []int{-4}},
		{Size: 8, Ptrs: []int{-4, 4}},
		{Size: 8, Ptrs: []int{4, 0}},
		{Size: 8, Ptrs: []int{4, 4}},
		{Size: 12, Ptrs: []int{0, 8, 4}},
		{Size: 12, Ptrs: []int{0, 0, 8}},
		{Size: 8, Ptrs: []int{1}},
		{Size: 8, Ptrs: []int{0, 6}},
		{Size: 8, Ptrs: []int{7}},
		{Ptrs: []int{0}},
		{Elem: 8, Ptrs: []int{0}},
		{Size: 1024, Ptrs: []int{1024}},
		{Size: 1028, Ptrs: []int{1024}},
		{Size: 8, Ptrs: []int{math.MinInt}},
		{Size: 8, Ptrs: []int{math.MaxInt}},
		{Size: 8, Ptrs: []int{0, math.MaxInt, math.MinInt}},
		{Elem: 8, ElemPtrs: []int{8}},
		{Elem: 8, ElemPtrs: []int{-4}},
		{Elem: 8, ElemPtrs: []int{4, 0}},
		{Elem: 8, ElemPtrs: []int{4, 4}},
		{Elem: 8, ElemPtrs: []int{2}},
		{ElemPtrs: []int{0}},
		{Size: 8, ElemPtrs: []int{0}},
		{Elem: 256, ElemPtrs: []int{256}},
		{Elem: 260, ElemPtrs: []int{256}},
		{Size: 8, Ptrs: []int{0}, Elem: 8, ElemPtrs: []int{0, 0}},
		{Size: -8, Elem: 16},
	}
	for _, n := range []int{1, 2, 3, 5, 6, 7, 126, 255, 1022, 1023, 1025, 1028, 1032, 2048} {
		all = append(all, api.Desc{Size: n}, api.Desc{Size: n, Elem: 4})
	}
	for _, n := range []int{1, 2, 3, 5, 6, 7, 126, 254, 255, 257, 260, 264, 1024} {
		all = append(all, api.Desc{Elem: n}, api.Desc{Size: 4, Elem: n})
	}
	for _, n := range far {
		all = append(all, api.Desc{Size: n}, api.Desc{Elem: n}, api.Desc{Size: n, Elem: n}, api.Desc{Size: n, Ptrs: []int{0}, Elem: 4})
	}
	return all
}

// layout tells of each byte behind an object's head what is there, if a place is
// meant by it.
func layout(d api.Desc, n int) []int {
	var all []int
	lay := func(size int, ptrs []int) {
		for p := range size {
			switch {
			case p%4 != 0:
				all = append(all, 0)
			case slices.Contains(ptrs, p):
				all = append(all, 2)
			default:
				all = append(all, 1)
			}
		}
	}
	lay(d.Size, d.Ptrs)
	for range n {
		lay(d.Elem, d.ElemPtrs)
	}
	return all
}

// rounded counts up to the bytes of so many, with a head, in granules.
func rounded(n int) int {
	bytes := 8
	for bytes < n+8 {
		bytes += 8
	}
	return bytes
}

// longest counts up to the greatest length that a right descriptor may have.
func longest(d api.Desc) int {
	n := 0
	if d.Elem > 0 {
		for bytes := 8 + d.Size + d.Elem; bytes <= 131072; bytes += d.Elem {
			n++
		}
	}
	return n
}

// none tells whether a descriptor is the zero value.
func none(d api.Desc) bool {
	return d.Size == 0 && len(d.Ptrs) == 0 && d.Elem == 0 && len(d.ElemPtrs) == 0
}

// equal tells by fields whether two descriptors are the same.
func equal(a, b api.Desc) bool {
	return a.Size == b.Size && a.Elem == b.Elem && slices.Equal(a.Ptrs, b.Ptrs) && slices.Equal(a.ElemPtrs, b.ElemPtrs)
}

// P4.1

func TestRight(t *testing.T) {
	for _, d := range append(small(), great()...) {
		if !desc.Right(d) {
			t.Error(d)
		}
	}
	for i, d := range wrongs() {
		if desc.Right(d) {
			t.Error(i, d)
		}
	}
}

func TestRightOfSizes(t *testing.T) {
	for n := -1100; n <= 1100; n++ {
		if d := (api.Desc{Size: n}); desc.Right(d) != (n >= 0 && n <= 1024 && n%4 == 0) {
			t.Error(d)
		}
		if d := (api.Desc{Elem: n}); desc.Right(d) != (n >= 0 && n <= 256 && n%4 == 0) {
			t.Error(d)
		}
	}
}

func TestRightOfPlaces(t *testing.T) {
	for p := -5; p <= 30; p++ {
		for q := -5; q <= 30; q++ {
			want := p >= 0 && p < q && q < 24 && p%4 == 0 && q%4 == 0
			if d := (api.Desc{Size: 24, Ptrs: []int{p, q}}); desc.Right(d) != want {
				t.Error(d)
			}
			if d := (api.Desc{Elem: 24, ElemPtrs: []int{p, q}}); desc.Right(d) != want {
				t.Error(d)
			}
		}
	}
}

func TestSame(t *testing.T) {
	all := append(append(small(), great()...), wrongs()...)
	for _, a := range all {
		for _, b := range all {
			if desc.Same(a, b) != equal(a, b) {
				t.Error(a, b)
			}
		}
		if b := (api.Desc{Size: a.Size, Ptrs: append([]int{}, a.Ptrs...), Elem: a.Elem, ElemPtrs: append([]int{}, a.ElemPtrs...)}); !desc.Same(a, b) || !desc.Same(b, a) {
			t.Error(a, b)
		}
	}
}

func TestSameOfOneChange(t *testing.T) {
	d := func() api.Desc { return api.Desc{Size: 12, Ptrs: []int{0, 8}, Elem: 16, ElemPtrs: []int{4, 12}} }
	for i, change := range []func(d *api.Desc){
		func(d *api.Desc) { d.Size = 16 },
		func(d *api.Desc) { d.Elem = 20 },
		func(d *api.Desc) { d.Ptrs = []int{0} },
		func(d *api.Desc) { d.Ptrs = nil },
		func(d *api.Desc) { d.Ptrs[0] = 4 },
		func(d *api.Desc) { d.Ptrs[1] = 4 },
		func(d *api.Desc) { d.Ptrs = []int{0, 4, 8} },
		func(d *api.Desc) { d.Ptrs = []int{8, 0} },
		func(d *api.Desc) { d.ElemPtrs = []int{4} },
		func(d *api.Desc) { d.ElemPtrs = nil },
		func(d *api.Desc) { d.ElemPtrs[0] = 0 },
		func(d *api.Desc) { d.ElemPtrs[1] = 8 },
		func(d *api.Desc) { d.ElemPtrs = []int{4, 12, 12} },
		func(d *api.Desc) { d.Size, d.Ptrs, d.Elem, d.ElemPtrs = d.Elem, d.ElemPtrs, d.Size, d.Ptrs },
		func(d *api.Desc) { d.Ptrs, d.ElemPtrs = d.ElemPtrs, d.Ptrs },
	} {
		other := d()
		change(&other)
		if desc.Same(d(), other) || desc.Same(other, d()) {
			t.Error(i)
		}
	}
}

// P4.1 and P4.3

func hold(t *testing.T, d api.Desc, n int) {
	t.Helper()
	at := layout(d, n)
	if b, e := desc.Bytes(d, n); b != rounded(len(at)) || e != api.OK {
		t.Fatal(d, n, b, e)
	}
	var slots []int
	for p, want := range at {
		if want == 2 {
			slots = append(slots, p)
		}
		if k, e := desc.Kind(d, n, p); k != want || e != api.OK {
			t.Fatal(d, n, p, k, e)
		}
	}
	for i := 0; i < 40; i++ {
		for _, p := range []int{-1 - i, len(at) + i} {
			if k, e := desc.Kind(d, n, p); k != 0 || e != api.OK {
				t.Fatal(d, n, p, k, e)
			}
		}
	}
	if list, e := desc.Slots(d, n); !slices.Equal(list, slots) || e != api.OK {
		t.Fatal(d, n, list, e)
	}
}

func TestObjects(t *testing.T) {
	for _, d := range append(small(), great()...) {
		lengths := []int{0, 1, 2, 3, 4, 7}
		if d.Elem == 0 {
			lengths = []int{0}
		}
		for _, n := range lengths {
			hold(t, d, n)
		}
	}
}

func TestLongestObjects(t *testing.T) {
	for _, d := range []api.Desc{{Elem: 4}, {Elem: 4, ElemPtrs: []int{0}}, {Size: 8, Ptrs: []int{4}, Elem: 12, ElemPtrs: []int{0, 8}}, {Size: 1024, Ptrs: every(0, 1024, 2), Elem: 256, ElemPtrs: every(0, 256, 3)}} {
		hold(t, d, longest(d))
	}
}

func TestKindFarOutside(t *testing.T) {
	for _, d := range append(small(), great()...) {
		for _, p := range far {
			if k, e := desc.Kind(d, 0, p); k != 0 || e != api.OK {
				t.Error(d, p, k, e)
			}
		}
	}
}

func TestOfTheExample(t *testing.T) {
	d := api.Desc{Size: 8, Ptrs: []int{4}, Elem: 12, ElemPtrs: []int{0, 8}}
	if b, e := desc.Bytes(d, 2); b != 40 || e != api.OK {
		t.Error(b, e)
	}
	if list, e := desc.Slots(d, 2); !slices.Equal(list, []int{4, 8, 16, 20, 28}) || e != api.OK {
		t.Error(list, e)
	}
	if k, e := desc.Kind(d, 2, 12); k != 1 || e != api.OK {
		t.Error(k, e)
	}
	if s, e := desc.Print(d); s != "8: 4; 12: 0 8" || e != api.OK {
		t.Error(s, e)
	}
}

// refused holds that the calls that take a length answer one error, and nothing beside it.
func refused(t *testing.T, d api.Desc, n int, want api.Errno) {
	t.Helper()
	if b, e := desc.Bytes(d, n); b != 0 || e != want {
		t.Error(d, n, b, e)
	}
	if list, e := desc.Slots(d, n); len(list) != 0 || e != want {
		t.Error(d, n, len(list), e)
	}
	for _, p := range []int{0, 4, 8, -4, 3, 131072, math.MinInt, math.MaxInt} {
		if k, e := desc.Kind(d, n, p); k != 0 || e != want {
			t.Error(d, n, p, k, e)
		}
	}
}

func TestLengthsAtTheLimit(t *testing.T) {
	for size := 0; size <= 1024; size += 4 {
		for elem := 4; elem <= 256; elem += 4 {
			d := api.Desc{Size: size, Elem: elem}
			n := longest(d)
			if b, e := desc.Bytes(d, n); b != rounded(size+n*elem) || b > 131072 || e != api.OK {
				t.Fatal(d, n, b, e)
			}
			if b, e := desc.Bytes(d, n+1); b != 0 || e != api.ErrLen {
				t.Fatal(d, n+1, b, e)
			}
		}
	}
}

func TestWrongLengths(t *testing.T) {
	for _, d := range append(small(), great()...) {
		most := longest(d)
		for _, n := range append([]int{most + 1, most + 2, most + 3, 2 * (most + 1), -3, -most - 1}, far...) {
			refused(t, d, n, api.ErrLen)
		}
	}
}

// Lengths whose bytes, multiplied, wrap round to a few.
func TestLengthsThatWrapRound(t *testing.T) {
	for elem := 4; elem <= 256; elem *= 2 {
		for i := range 8 {
			refused(t, api.Desc{Size: 8, Elem: elem}, math.MinInt/elem*-2+i, api.ErrLen)
			refused(t, api.Desc{Size: 8, Elem: elem}, math.MinInt/elem*2+i, api.ErrLen)
		}
	}
	refused(t, api.Desc{Elem: 12}, math.MaxInt/6+1, api.ErrLen)
}

func TestWrongDescriptorsComeAheadOfWrongLengths(t *testing.T) {
	for _, d := range wrongs() {
		for _, n := range append([]int{0, 1, 2}, far...) {
			refused(t, d, n, api.ErrDesc)
		}
	}
}

// P4.2 and P4.3

// written is a descriptor's text, put together number by number.
func written(d api.Desc) string {
	part := func(size int, ptrs []int) string {
		s := strconv.Itoa(size) + ":"
		for _, p := range ptrs {
			s += "\x20" + strconv.Itoa(p)
		}
		return s
	}
	return part(d.Size, d.Ptrs) + "; " + part(d.Elem, d.ElemPtrs)
}

func TestPrintAndParse(t *testing.T) {
	for _, d := range append(small(), great()...) {
		s, e := desc.Print(d)
		if s != written(d) || e != api.OK {
			t.Error(d, s, e)
		}
		if back, f := desc.Parse(s); !equal(back, d) || f != api.OK {
			t.Error(d, back, f)
		}
	}
}

func TestPrintOfWrongDescriptors(t *testing.T) {
	for _, d := range wrongs() {
		if s, e := desc.Print(d); s != "" || e != api.ErrDesc {
			t.Error(d, s, e)
		}
		if back, e := desc.Parse(written(d)); !none(back) || e != api.ErrDesc {
			t.Error(d, back, e)
		}
	}
}

var pattern = regexp.MustCompile(`\A(0|[1-9][0-9]*):((?: (?:0|[1-9][0-9]*))*); (0|[1-9][0-9]*):((?: (?:0|[1-9][0-9]*))*)\z`)

// meant is the right descriptor that has a text, if there is one.
func meant(s string) (api.Desc, bool) {
	m := pattern.FindStringSubmatch(s)
	if m == nil {
		return api.Desc{}, false
	}
	part := func(size, places string, most int) (int, []int, bool) {
		n, err := strconv.Atoi(size)
		right := err == nil && n <= most && n%4 == 0
		var list []int
		for _, place := range strings.Fields(places) {
			p, err := strconv.Atoi(place)
			right = right && err == nil && p < n && p%4 == 0 && (len(list) == 0 || p > list[len(list)-1])
			list = append(list, p)
		}
		return n, list, right
	}
	size, ptrs, right := part(m[1], m[2], 1024)
	elem, elemPtrs, also := part(m[3], m[4], 256)
	if !right || !also {
		return api.Desc{}, false
	}
	return api.Desc{Size: size, Ptrs: ptrs, Elem: elem, ElemPtrs: elemPtrs}, true
}

func parsed(t *testing.T, s string) {
	t.Helper()
	want, right := meant(s)
	d, e := desc.Parse(s)
	switch {
	case right && (!equal(d, want) || e != api.OK):
		t.Errorf("%q %v %v", s, d, e)
	case !right && (!none(d) || e != api.ErrDesc):
		t.Errorf("%q %v %v", s, d, e)
	}
}

var signs = []string{"0", "1", "2", "4", "8", "9", " ", ":", ";", "; ", ": ", " 4", ": 0", "-", "+", ".", ",", "x", "\n", "\r", "\t", "\x00", "\x80", "\xff", "\u00a0", "\u0664", "\uff14", "\ufffd"}

// All texts that are one piece away from a right one, or two.
func TestParseOfTextsNearRightOnes(t *testing.T) {
	for _, s := range []string{"0:; 0:", "8: 4; 12: 0 8", "1024: 0 1020; 256: 252", "12: 0 4 8; 4: 0", "16:; 0:"} {
		parsed(t, s)
		for i := range len(s) + 1 {
			parsed(t, s[:i])
			parsed(t, s[i:])
			parsed(t, s[:i]+s)
			parsed(t, s+s[:i])
			for j := i; j <= len(s); j++ {
				parsed(t, s[:i]+s[j:])
				for _, sign := range signs {
					parsed(t, s[:i]+sign+s[j:])
				}
			}
			for _, a := range signs {
				for _, b := range signs {
					parsed(t, s[:i]+a+b+s[i:])
				}
			}
		}
	}
}

// All texts of the signs that texts are made of, up to some length.
func TestParseOfAllShortTexts(t *testing.T) {
	texts := []string{""}
	for range 8 {
		var longer []string
		for _, s := range texts {
			parsed(t, s)
			for _, sign := range "04:; " {
				longer = append(longer, s+string(sign))
			}
		}
		texts = longer
	}
}

func TestParseOfWrongTexts(t *testing.T) {
	for _, s := range []string{
		"", " ", ":", ";", ":;:", ":; :", "0:; :", ":; 0:", "0:", "0:; ", "0:;0:", "0: ; 0:", "0:; 0: ", "0:;  0:", " 0:; 0:", "0 :; 0:", "0:; 0 :",
		"0:; 0:\n", "0:; 0:; 0:", "0:\n0:", "00:; 0:", "0:; 00:", "08:; 0:", "8: 04; 0:", "8: 00; 0:", "8:4; 0:", "8:  4; 0:", "8: 4 ; 0:", "8: 4,; 0:",
		"+8:; 0:", "-0:; 0:", "-4:; 0:", "8: -4; 0:", "8: -0; 0:", "8: +4; 0:", "0x8:; 0:", "8.0:; 0:", "1e1:; 0:", "4_0:; 0:", "8: x; 0:",
		"8: 8; 0:", "8: 4 0; 0:", "8: 4 4; 0:", "8: 2; 0:", "2:; 0:", "0:; 2:", "0:; 8: 8", "0:; 8: 4 0", "0:; 8: 4 4", "0: 0; 0:", "0:; 0: 0",
		"1028:; 0:", "0:; 260:", "1028: 1024; 0:", "4096:; 0:", "65536:; 0:", "0:; 65536:",
		"4294967296:; 0:", "4294967304: 4; 0:", "18446744073709551616:; 0:", "18446744073709551624: 4; 0:", "8: 18446744073709551620; 0:", "0:; 18446744073709551624: 4",
		"99999999999999999999:; 0:", "\u0668:; 0:", "8: \u0664; 0:", "\uff18:; 0:", "8:\u00a04; 0:", "8\x80:; 0:", "\xff",
	} {
		if d, e := desc.Parse(s); !none(d) || e != api.ErrDesc {
			t.Errorf("%q %v %v", s, d, e)
		}
		if _, right := meant(s); right {
			t.Errorf("%q", s)
		}
	}
}

func TestParseOfLongTexts(t *testing.T) {
	const many = 1 << 20
	for i, s := range []string{
		strings.Repeat("0", many),
		strings.Repeat("9", many) + ":; 0:",
		"8:" + strings.Repeat(" 4", many) + "; 0:",
		"1024:" + strings.Repeat(" 0", many) + "; 0:",
		"0:" + strings.Repeat(" 0", many) + "; 0:",
		"0:; 256:" + strings.Repeat(" 0", many),
		"0:; 0:" + strings.Repeat(" ", many),
		strings.Repeat("0:; ", many),
		strings.Repeat(" ", many) + "0:; 0:",
		strings.Repeat("\xff", many),
	} {
		if d, e := desc.Parse(s); !none(d) || e != api.ErrDesc {
			t.Error(i, e)
		}
	}
}

// All calls

// spared is a list with its spare room filled.
func spared(list ...int) []int {
	return append(list, 77, 78, 79)[:len(list)]
}

func TestArgumentsStay(t *testing.T) {
	d := api.Desc{Size: 12, Ptrs: spared(0, 8), Elem: 16, ElemPtrs: spared(4, 12)}
	for _, n := range []int{0, 3, -1, 1 << 40} {
		desc.Right(d)
		desc.Same(d, d)
		desc.Bytes(d, n)
		desc.Kind(d, n, 16)
		desc.Slots(d, n)
		desc.Print(d)
		if !slices.Equal(d.Ptrs[:5], []int{0, 8, 77, 78, 79}) || !slices.Equal(d.ElemPtrs[:5], []int{4, 12, 77, 78, 79}) {
			t.Fatal(n, d.Ptrs[:5], d.ElemPtrs[:5])
		}
	}
}

func TestAnswersAreNew(t *testing.T) {
	d := api.Desc{Size: 8, Ptrs: []int{0, 4}}
	list, _ := desc.Slots(d, 0)
	other, _ := desc.Slots(d, 0)
	for _, l := range [][]int{list[:cap(list)], other[:cap(other)]} {
		for i := range l {
			l[i] = 99
		}
		if !slices.Equal(d.Ptrs, []int{0, 4}) {
			t.Error(d)
		}
	}
	third, _ := desc.Slots(d, 0)
	if !slices.Equal(third, []int{0, 4}) {
		t.Error(third)
	}
	list, _ = desc.Slots(d, 0)
	list[0] = 5
	if !slices.Equal(third, []int{0, 4}) {
		t.Error(third)
	}
}

func TestWhatIsParsedIsNew(t *testing.T) {
	const s = "12: 0 4 8; 16: 0 4 12"
	a, _ := desc.Parse(s)
	b, _ := desc.Parse(s)
	for _, l := range [][]int{a.Ptrs[:cap(a.Ptrs)], b.ElemPtrs[:cap(b.ElemPtrs)]} {
		for i := range l {
			l[i] = 99
		}
	}
	if !slices.Equal(a.ElemPtrs, []int{0, 4, 12}) || !slices.Equal(b.Ptrs, []int{0, 4, 8}) {
		t.Error(a, b)
	}
}
