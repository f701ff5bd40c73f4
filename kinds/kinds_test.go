package kinds_test

import (
	"math"
	"regexp"
	"slices"
	"strconv"
	"strings"
	"testing"

	"selion/api"
	"selion/kinds"
)

// The tests hold descriptors by their fields, read texts by a pattern, and write
// limits as numbers, so that they hold the document's words against the program.

var far = []int{-1, -2, -60, -61, 61, 62, 63, 64, 255, 256, 257, 65536, 65537, 1 << 31, 1 << 32, 1<<32 + 1, 1 << 62, math.MaxInt, math.MinInt, math.MinInt + 1}

// some are right descriptors, no two the same.
func some() []api.Desc {
	return []api.Desc{
		{},
		{Size: 8, Ptrs: []int{4}},
		{Size: 8},
		{Size: 8, Ptrs: []int{0}},
		{Size: 8, Ptrs: []int{0, 4}},
		{Elem: 8},
		{Elem: 8, ElemPtrs: []int{4}},
		{Size: 8, Ptrs: []int{4}, Elem: 12, ElemPtrs: []int{0, 8}},
		{Size: 12, Ptrs: []int{0, 8}, Elem: 8, ElemPtrs: []int{4}},
		{Size: 1024, Ptrs: []int{0, 1020}, Elem: 256, ElemPtrs: []int{0, 252}},
		{Size: 4, Ptrs: []int{0}, Elem: 4, ElemPtrs: []int{0}},
		{Size: 4, Elem: 4},
	}
}

// wrongs are descriptors that are not right.
func wrongs() []api.Desc {
	return []api.Desc{
		{Size: 2},
		{Size: -4},
		{Size: 1028},
		{Elem: 2},
		{Elem: -4},
		{Elem: 260},
		{Size: 8, Ptrs: []int{8}},
		{Size: 8, Ptrs: []int{4, 0}},
		{Size: 8, Ptrs: []int{4, 4}},
		{Size: 8, Ptrs: []int{2}},
		{Size: 8, Ptrs: []int{-4}},
		{Ptrs: []int{0}},
		{Elem: 8, ElemPtrs: []int{8}},
		{Elem: 8, ElemPtrs: []int{4, 0}},
		{Elem: 8, ElemPtrs: []int{1}},
		{ElemPtrs: []int{0}},
		{Size: math.MaxInt, Elem: math.MinInt},
	}
}

// row are n descriptors, of which the first 126 are right, no two the same: even
// ones differ by their sizes, odd ones by their elements' pointers.
func row(n int) []api.Desc {
	all := make([]api.Desc, n)
	for i := range all {
		all[i] = api.Desc{Size: 4 * i}
		if i%2 == 1 {
			all[i] = api.Desc{Size: 8, Ptrs: []int{4}, Elem: 256, ElemPtrs: []int{0, 4 * (i%63 + 1)}}
		}
	}
	return all
}

// none tells whether a descriptor is the zero value.
func none(d api.Desc) bool {
	return d.Size == 0 && len(d.Ptrs) == 0 && d.Elem == 0 && len(d.ElemPtrs) == 0
}

// equal tells by fields whether two descriptors are the same.
func equal(a, b api.Desc) bool {
	return a.Size == b.Size && a.Elem == b.Elem && slices.Equal(a.Ptrs, b.Ptrs) && slices.Equal(a.ElemPtrs, b.ElemPtrs)
}

func equals(a, b []api.Desc) bool {
	return slices.EqualFunc(a, b, equal)
}

// good tells by the document's words whether a descriptor is right.
func good(d api.Desc) bool {
	part := func(size, most int, ptrs []int) bool {
		right := size >= 0 && size <= most && size%4 == 0
		for i, p := range ptrs {
			right = right && p >= 0 && p < size && p%4 == 0 && (i == 0 || ptrs[i-1] < p)
		}
		return right
	}
	return part(d.Size, 1024, d.Ptrs) && part(d.Elem, 256, d.ElemPtrs)
}

// place is where the first one that is the same stands, or -1.
func place(l []api.Desc, d api.Desc) int {
	return slices.IndexFunc(l, func(other api.Desc) bool { return equal(other, d) })
}

// meantKinds tells by the document's words whether descriptors are kinds.
func meantKinds(l []api.Desc) bool {
	right := len(l) <= 60
	for i, d := range l {
		right = right && good(d) && place(l[:i], d) < 0
	}
	return right
}

// copies are the same descriptors elsewhere, with empty lists for nil ones.
func copies(l []api.Desc) []api.Desc {
	all := []api.Desc{}
	for _, d := range l {
		all = append(all, api.Desc{Size: d.Size, Ptrs: append([]int{}, d.Ptrs...), Elem: d.Elem, ElemPtrs: append([]int{}, d.ElemPtrs...)})
	}
	return all
}

// lists are lists of all descriptors, right or not, of at most three, and some longer ones.
func lists() [][]api.Desc {
	all := [][]api.Desc{nil, {}}
	last := all[:1]
	picks := append(some()[:6], wrongs()[:4]...)
	for range 3 {
		var longer [][]api.Desc
		for _, l := range last {
			for _, d := range picks {
				longer = append(longer, append(slices.Clone(l), d))
			}
		}
		all = append(all, longer...)
		last = longer
	}
	for _, d := range append(some(), wrongs()...) {
		all = append(all, []api.Desc{d}, append(row(3), d), append([]api.Desc{d}, row(3)...), append(row(59), d))
	}
	return append(all, some(), row(59), row(60), row(61), row(62), row(120), row(200))
}

// spoilt are lists at the limit that are no kinds for one reason each.
func spoilt() [][]api.Desc {
	all := [][]api.Desc{row(61), row(62), row(1000)}
	for i := range 60 {
		l := row(60)
		l[i] = wrongs()[i%len(wrongs())]
		all = append(all, l)
		l = row(60)
		l[i] = l[(i+1)%60]
		all = append(all, l)
		l = row(60)
		l[i] = l[(i+31)%60]
		all = append(all, l)
	}
	return all
}

// P5.1

func TestRight(t *testing.T) {
	for _, l := range lists() {
		if kinds.Right(l) != meantKinds(l) || kinds.Right(copies(l)) != meantKinds(l) {
			t.Error(l)
		}
	}
	for i, l := range spoilt() {
		if meantKinds(l) || kinds.Right(l) {
			t.Error(i, l)
		}
	}
}

func TestRightOfAsMany(t *testing.T) {
	for n := range 130 {
		if kinds.Right(row(n)) != (n <= 60) {
			t.Error(n)
		}
	}
}

func TestRightOfTwoAlike(t *testing.T) {
	for i := range 60 {
		for j := range i {
			l := row(60)
			l[i] = copies(l[j : j+1])[0]
			if kinds.Right(l) || kinds.Right(l[:i+1]) || !kinds.Right(l[:i]) {
				t.Error(i, j)
			}
		}
	}
}

func TestRightOfLongLists(t *testing.T) {
	const many = 1 << 20
	places := make([]int, many)
	for i := range places {
		places[i] = 4 * i
	}
	for i, l := range [][]api.Desc{
		make([]api.Desc, many),
		{{Size: 4 * many, Ptrs: places}},
		{{Size: 1024, Ptrs: places}, {Size: 1024, Ptrs: places}},
		{{Elem: 256, ElemPtrs: places}},
	} {
		if kinds.Right(l) {
			t.Error(i)
		}
		if back, n, e := kinds.Add(l, api.Desc{}); len(back) != 0 || n != 0 || e != api.ErrKinds {
			t.Error(i, n, e)
		}
	}
	if n, found := kinds.Find(make([]api.Desc, many), api.Desc{Size: 4}); n != 0 || found {
		t.Error(n, found)
	}
	if !kinds.Same(make([]api.Desc, many), make([]api.Desc, many)) || kinds.Same(make([]api.Desc, many), make([]api.Desc, many-1)) {
		t.Error(many)
	}
}

func TestFind(t *testing.T) {
	all := append(some(), wrongs()...)
	for _, l := range append(lists(), append(row(200), all...)) {
		for _, d := range copies(all) {
			i := place(l, d)
			if n, found := kinds.Find(l, d); n != i+1 || found != (i >= 0) {
				t.Error(l, d, n, found)
			}
		}
	}
}

func TestFindTheFirst(t *testing.T) {
	l := row(200)
	for i := range l {
		if n, found := kinds.Find(append(l, l...), copies(l[i : i+1])[0]); n != place(l, l[i])+1 || !found {
			t.Error(i, n, found)
		}
	}
	d := api.Desc{Size: 3, Ptrs: []int{9}}
	for i := range 5 {
		l := slices.Repeat([]api.Desc{{Size: 3}}, i)
		if n, found := kinds.Find(append(l, d, d), d); n != i+1 || !found {
			t.Error(i, n, found)
		}
	}
}

func TestSame(t *testing.T) {
	picks := append(some()[:4], wrongs()[:2]...)
	all := [][]api.Desc{nil, {}}
	for _, a := range picks {
		all = append(all, []api.Desc{a})
		for _, b := range picks {
			all = append(all, []api.Desc{a, b})
		}
	}
	all = append(all, row(59), row(60), row(61), some(), wrongs(), row(60)[1:])
	for _, a := range all {
		for _, b := range all {
			if kinds.Same(a, copies(b)) != equals(a, b) {
				t.Error(a, b)
			}
		}
	}
}

func TestSameOfOneChange(t *testing.T) {
	for i := range 60 {
		a, b := row(60), row(60)
		b[i].Elem++
		if kinds.Same(a, b) || kinds.Same(b, a) {
			t.Error(i)
		}
		b = slices.Delete(row(60), i, i+1)
		if kinds.Same(a, b) || kinds.Same(b, a) || kinds.Same(a[:59], b) != (i == 59) {
			t.Error(i)
		}
	}
}

// added holds Add against the document's words.
func added(t *testing.T, l []api.Desc, d api.Desc) {
	t.Helper()
	var want []api.Desc
	kind, err := 0, api.OK
	switch {
	case !meantKinds(l):
		err = api.ErrKinds
	case !good(d):
		err = api.ErrDesc
	case place(l, d) >= 0:
		want, kind = l, place(l, d)+1
	case len(l) == 60:
		err = api.ErrMany
	default:
		want, kind = append(slices.Clone(l), d), len(l)+1
	}
	if back, n, e := kinds.Add(l, d); !equals(back, want) || n != kind || e != err {
		t.Fatal(l, d, back, n, e)
	}
}

func TestAdd(t *testing.T) {
	for _, l := range lists() {
		for _, d := range copies(append(some(), wrongs()...)) {
			added(t, l, d)
		}
	}
	for _, l := range spoilt() {
		added(t, l, api.Desc{Size: 12})
		added(t, l, api.Desc{Size: 2})
		added(t, l, l[0])
		added(t, l, l[59])
	}
}

func TestAddAtTheLimit(t *testing.T) {
	for n := range 61 {
		for i := range n {
			added(t, row(n), copies(row(n))[i])
		}
		added(t, row(n), api.Desc{Size: 1024})
		added(t, row(n), api.Desc{Size: 1028})
	}
	if _, n, e := kinds.Add(row(59), api.Desc{Size: 1024}); n != 60 || e != api.OK {
		t.Error(n, e)
	}
	if _, n, e := kinds.Add(row(60), api.Desc{Size: 1024}); n != 0 || e != api.ErrMany {
		t.Error(n, e)
	}
	if _, n, e := kinds.Add(row(60), row(60)[59]); n != 60 || e != api.OK {
		t.Error(n, e)
	}
	if _, n, e := kinds.Add(row(60), api.Desc{Size: 2}); n != 0 || e != api.ErrDesc {
		t.Error(n, e)
	}
	if _, n, e := kinds.Add(row(61), api.Desc{Size: 2}); n != 0 || e != api.ErrKinds {
		t.Error(n, e)
	}
}

func TestOf(t *testing.T) {
	for _, l := range append(lists(), spoilt()...) {
		for _, kind := range append([]int{0, 1, 2, 3, 4, 59, 60}, far...) {
			var want api.Desc
			err := api.OK
			switch {
			case !meantKinds(l):
				err = api.ErrKinds
			case kind < 1 || kind > len(l):
				err = api.ErrKind
			default:
				want = l[kind-1]
			}
			if d, e := kinds.Of(l, kind); !equal(d, want) || e != err {
				t.Fatal(l, kind, d, e)
			}
		}
	}
}

func TestOfEach(t *testing.T) {
	for n := range 61 {
		for kind := -2; kind <= n+3; kind++ {
			d, e := kinds.Of(row(n), kind)
			switch {
			case kind >= 1 && kind <= n:
				if !equal(d, row(n)[kind-1]) || e != api.OK {
					t.Fatal(n, kind, d, e)
				}
			case !none(d) || e != api.ErrKind:
				t.Fatal(n, kind, d, e)
			}
		}
	}
}

func TestOfTheExample(t *testing.T) {
	var l []api.Desc
	for i, d := range []api.Desc{{Size: 8, Ptrs: []int{4}}, {Size: 8}, {Size: 8, Ptrs: []int{4}}} {
		var n int
		var e api.Errno
		l, n, e = kinds.Add(l, d)
		if n != []int{1, 2, 1}[i] || e != api.OK {
			t.Error(i, n, e)
		}
	}
	if s, e := kinds.Print(l); s != "8: 4; 0:\n8:; 0:\n" || e != api.OK {
		t.Errorf("%q %v", s, e)
	}
}

// P5.3

func TestWhatIsAddedIsThere(t *testing.T) {
	var l []api.Desc
	for round := range 2 {
		for i, d := range row(60) {
			next, n, e := kinds.Add(l, d)
			if n != i+1 || e != api.OK || !kinds.Right(next) || len(next) != max(len(l), i+1) {
				t.Fatal(round, i, n, e)
			}
			l = next
			for k, want := range row(len(l)) {
				got, e := kinds.Of(l, k+1)
				if found, ok := kinds.Find(l, want); !equal(got, want) || e != api.OK || found != k+1 || !ok {
					t.Fatal(round, i, k, got, e, found, ok)
				}
			}
		}
	}
	if !kinds.Same(l, row(60)) {
		t.Error(l)
	}
}

// P5.2

// written is a descriptor's text, put together number by number.
func written(d api.Desc) string {
	part := func(size int, ptrs []int) string {
		s := strconv.Itoa(size) + ":"
		for _, p := range ptrs {
			s += "\x20" + strconv.Itoa(p)
		}
		return s
	}
	return part(d.Size, d.Ptrs) + "; " + part(d.Elem, d.ElemPtrs)
}

// writtenAll is the text of descriptors, right or not.
func writtenAll(l []api.Desc) string {
	s := ""
	for _, d := range l {
		s += written(d) + "\x0a"
	}
	return s
}

var pattern = regexp.MustCompile(`\A(0|[1-9][0-9]*):((?: (?:0|[1-9][0-9]*))*); (0|[1-9][0-9]*):((?: (?:0|[1-9][0-9]*))*)\z`)

// meant is the right descriptor that has a text, if there is one.
func meant(s string) (api.Desc, bool) {
	m := pattern.FindStringSubmatch(s)
	if m == nil {
		return api.Desc{}, false
	}
	var d api.Desc
	var errs [2]error
	d.Size, errs[0] = strconv.Atoi(m[1])
	d.Elem, errs[1] = strconv.Atoi(m[3])
	right := errs[0] == nil && errs[1] == nil
	places := func(text string) []int {
		var list []int
		for _, place := range strings.Fields(text) {
			p, err := strconv.Atoi(place)
			right = right && err == nil
			list = append(list, p)
		}
		return list
	}
	d.Ptrs, d.ElemPtrs = places(m[2]), places(m[4])
	return d, right && good(d)
}

// meantAll are the kinds of a text, or the first line that is wrong and why.
func meantAll(s string) ([]api.Desc, int, api.Errno) {
	var l []api.Desc
	for line := 1; s != ""; line++ {
		i := strings.Index(s, "\x0a")
		if i < 0 {
			return nil, line, api.ErrDesc
		}
		d, right := meant(s[:i])
		switch {
		case !right:
			return nil, line, api.ErrDesc
		case place(l, d) >= 0:
			return nil, line, api.ErrTwice
		case len(l) == 60:
			return nil, line, api.ErrMany
		}
		l = append(l, d)
		s = s[i+1:]
	}
	return l, 0, api.OK
}

func parsed(t *testing.T, s string) {
	t.Helper()
	want, line, err := meantAll(s)
	if l, n, e := kinds.Parse(s); !equals(l, want) || n != line || e != err {
		t.Fatalf("%q: %v %v %v", s, l, n, e)
	}
}

func TestPrintAndParse(t *testing.T) {
	for _, l := range append(lists(), spoilt()...) {
		s, e := kinds.Print(l)
		if !meantKinds(l) {
			if s != "" || e != api.ErrKinds {
				t.Error(l, s, e)
			}
			parsed(t, writtenAll(l))
			if back, n, e := kinds.Parse(writtenAll(l)); len(back) != 0 || n == 0 || e == api.OK {
				t.Error(l, back, n, e)
			}
			continue
		}
		if s != writtenAll(l) || e != api.OK {
			t.Error(l, s, e)
		}
		if back, n, e := kinds.Parse(s); !equals(back, l) || n != 0 || e != api.OK {
			t.Error(l, back, n, e)
		}
	}
}

func TestParseOfAsMany(t *testing.T) {
	for n := range 64 {
		s := writtenAll(row(n))
		l, line, e := kinds.Parse(s)
		if n <= 60 && (!equals(l, row(n)) || line != 0 || e != api.OK) || n > 60 && (len(l) != 0 || line != 61 || e != api.ErrMany) {
			t.Error(n, line, e)
		}
		for _, more := range []string{"\n", "x", "x\n", "8:; 0:", "8:; 0:\n", "0:; 0:", "0:; 0:\n", "0:; 0:\n\n", "2:; 0:\n", "1024:; 0:\n", "1024:; 0:", "8:; 0:\r\n", " "} {
			parsed(t, s+more)
			parsed(t, more+s)
		}
	}
}

// What a line is wrong by is told in its order, and the first line that is wrong.
func TestParseOfWrongLines(t *testing.T) {
	sixty := writtenAll(row(60))
	for i, x := range []struct {
		s    string
		line int
		err  api.Errno
	}{
		{"8: 4; 0:", 1, api.ErrDesc},
		{"\n", 1, api.ErrDesc},
		{"\n8: 4; 0:\n", 1, api.ErrDesc},
		{"8: 4; 0:\n\n", 2, api.ErrDesc},
		{"8: 4; 0:\n8:; 0:", 2, api.ErrDesc},
		{"8: 4; 0:\n8: 4; 0:", 2, api.ErrDesc},
		{"8: 4; 0:\n8: 4; 0:\n", 2, api.ErrTwice},
		{"8: 4; 0:\n8: 4; 0:\nx\n", 2, api.ErrTwice},
		{"8: 4; 0:\nx\n8: 4; 0:\n", 2, api.ErrDesc},
		{"8: 4; 0:\n8:; 0:\n0:; 0:\n8:; 0:\n8: 4; 0:\n", 4, api.ErrTwice},
		{"8: 4; 0:\r\n", 1, api.ErrDesc},
		{"8: 4; 0:\n\r\n", 2, api.ErrDesc},
		{"8: 4; 0:\n ", 2, api.ErrDesc},
		{"8: 4; 0: \n", 1, api.ErrDesc},
		{" 8: 4; 0:\n", 1, api.ErrDesc},
		{"8: 4; 0:\x00\n", 1, api.ErrDesc},
		{"8: 4; 0:\u2028", 1, api.ErrDesc},
		{"08: 4; 0:\n", 1, api.ErrDesc},
		{"8: 4\n; 0:\n", 1, api.ErrDesc},
		{"8: 4 4; 0:\n", 1, api.ErrDesc},
		{sixty + "1024:; 0:\n", 61, api.ErrMany},
		{sixty + "1024:; 0:\nx", 61, api.ErrMany},
		{sixty + "1024:; 0:", 61, api.ErrDesc},
		{sixty + "1028:; 0:\n", 61, api.ErrDesc},
		{sixty + "\n", 61, api.ErrDesc},
		{sixty + "0:; 0:\n", 61, api.ErrTwice},
		{sixty + written(row(60)[59]) + "\n", 61, api.ErrTwice},
		{sixty + "0:; 0:", 61, api.ErrDesc},
	} {
		if l, n, e := kinds.Parse(x.s); len(l) != 0 || n != x.line || e != x.err {
			t.Error(i, l, n, e)
		}
		parsed(t, x.s)
	}
	parsed(t, "")
	parsed(t, sixty)
}

func TestParseOfEachLineTwice(t *testing.T) {
	for i := range 60 {
		for j := range i {
			l := row(60)
			l[i] = l[j]
			if back, n, e := kinds.Parse(writtenAll(l)); len(back) != 0 || n != i+1 || e != api.ErrTwice {
				t.Error(i, j, n, e)
			}
		}
	}
}

var signs = []string{"\n", "\n\n", "\r\n", "\r", "0", "4", "8", " ", ":", ";", "; ", " 4", "-", "x", "0:; 0:\n", "8: 4; 0:\n", "\x00", "\xff", "\u0085", "\u2028"}

// All texts that are one piece away from a right one.
func TestParseOfTextsNearRightOnes(t *testing.T) {
	for _, s := range []string{"0:; 0:\n", "8: 4; 0:\n8:; 0:\n", "8: 4; 12: 0 8\n0:; 0:\n8: 4; 12: 0 4\n", "4:; 0:\n0:; 4:\n4:; 4:\n"} {
		parsed(t, s)
		for i := range len(s) + 1 {
			parsed(t, s[:i])
			parsed(t, s[i:])
			parsed(t, s[:i]+s)
			parsed(t, s+s[:i])
			for j := i; j <= len(s); j++ {
				parsed(t, s[:i]+s[j:])
				for _, sign := range signs {
					parsed(t, s[:i]+sign+s[j:])
				}
			}
		}
	}
}

// All texts of some lines, right or not, with an end or without.
func TestParseOfAllTextsOfSomeLines(t *testing.T) {
	texts := []string{""}
	for range 4 {
		var longer []string
		for _, s := range texts {
			parsed(t, s)
			for _, line := range []string{"0:; 0:", "8: 4; 0:", "8: 0; 0:", "0:; 8: 4", "8: 8; 0:", "0:; 0", "", "0:; 0:\r"} {
				parsed(t, s+line)
				longer = append(longer, s+line+"\n")
			}
		}
		texts = longer
	}
}

func TestParseOfLongTexts(t *testing.T) {
	const many = 1 << 20
	for i, x := range []struct {
		s    string
		line int
		err  api.Errno
	}{
		{strings.Repeat("\n", many), 1, api.ErrDesc},
		{strings.Repeat("0:; 0:\n", many), 2, api.ErrTwice},
		{strings.Repeat("0", many) + "\n", 1, api.ErrDesc},
		{"0:; 0:\n8:" + strings.Repeat(" 4", many) + "; 0:\n", 2, api.ErrDesc},
		{"0:; 0:\n" + strings.Repeat(" ", many), 2, api.ErrDesc},
		{strings.Repeat("\xff", many), 1, api.ErrDesc},
		{writtenAll(row(200)) + strings.Repeat("\n", many), 61, api.ErrMany},
	} {
		if l, n, e := kinds.Parse(x.s); len(l) != 0 || n != x.line || e != x.err {
			t.Error(i, n, e)
		}
	}
}

// All calls

// spared is a list with its spare room filled.
func spared(places ...int) []int {
	return append(places, 77, 78, 79)[:len(places)]
}

// sparedKinds are n kinds with all spare room filled.
func sparedKinds(n int) []api.Desc {
	l := row(n)
	for i, d := range l {
		l[i].Ptrs, l[i].ElemPtrs = spared(d.Ptrs...), spared(d.ElemPtrs...)
	}
	return append(l, api.Desc{Size: 77, Ptrs: []int{78}}, api.Desc{Elem: 79})[:n]
}

// stayed tells whether they are as they were made.
func stayed(l []api.Desc) bool {
	n := len(l)
	same := equals(l, row(n)) && equals(l[n:n+2], []api.Desc{{Size: 77, Ptrs: []int{78}}, {Elem: 79}})
	for _, d := range l {
		for _, places := range [][]int{d.Ptrs, d.ElemPtrs} {
			m := len(places)
			same = same && slices.Equal(places[m:m+3], []int{77, 78, 79})
		}
	}
	return same
}

// overwrite writes into all of a list, its spare room too.
func overwrite(l []api.Desc) {
	for _, d := range l[:cap(l)] {
		for _, places := range [][]int{d.Ptrs[:cap(d.Ptrs)], d.ElemPtrs[:cap(d.ElemPtrs)]} {
			for i := range places {
				places[i] = 99
			}
		}
	}
	for i := range l[:cap(l)] {
		l[:cap(l)][i] = api.Desc{Size: 99}
	}
}

func TestArgumentsStay(t *testing.T) {
	for _, n := range []int{0, 1, 2, 5, 59, 60, 61} {
		l := sparedKinds(n)
		d := api.Desc{Size: 12, Ptrs: spared(0, 8), Elem: 16, ElemPtrs: spared(4, 12)}
		kinds.Right(l)
		kinds.Find(l, d)
		kinds.Same(l, l)
		kinds.Print(l)
		for kind := -1; kind <= n+1; kind++ {
			of, _ := kinds.Of(l, kind)
			overwrite([]api.Desc{of})
		}
		for _, other := range append([]api.Desc{d, {Size: 2}}, l...) {
			all, _, _ := kinds.Add(l, other)
			overwrite(all)
		}
		if !stayed(l) || !slices.Equal(d.Ptrs[:5], []int{0, 8, 77, 78, 79}) || !slices.Equal(d.ElemPtrs[:5], []int{4, 12, 77, 78, 79}) {
			t.Fatal(n, l, d)
		}
	}
}

// apart holds that to write into one of a list changes no other one.
func apart(t *testing.T, make func() []api.Desc) {
	t.Helper()
	want := make()
	for i := range want {
		l := make()
		for _, places := range [][]int{l[i].Ptrs[:cap(l[i].Ptrs)], l[i].ElemPtrs[:cap(l[i].ElemPtrs)]} {
			for j := range places {
				places[j] = 99
			}
		}
		for k := range l {
			if k != i && !equal(l[k], want[k]) {
				t.Error(i, k, l[k])
			}
		}
		l = make()
		for j := range l[i].Ptrs[:cap(l[i].Ptrs)] {
			l[i].Ptrs[:cap(l[i].Ptrs)][j] = 99
		}
		if !slices.Equal(l[i].ElemPtrs, want[i].ElemPtrs) {
			t.Error(i, l[i])
		}
	}
}

func TestAnswersAreApart(t *testing.T) {
	apart(t, func() []api.Desc {
		l, _, _ := kinds.Add(some(), api.Desc{Size: 20, Ptrs: []int{0, 16}})
		return l
	})
	apart(t, func() []api.Desc {
		l, _, _ := kinds.Add(some(), some()[7])
		return l
	})
	apart(t, func() []api.Desc {
		l, _, _ := kinds.Parse(writtenAll(some()))
		return l
	})
	places := []int{0, 4}
	apart(t, func() []api.Desc {
		places[0], places[1] = 0, 4
		l, _, _ := kinds.Add([]api.Desc{{Size: 8, Ptrs: places}, {Size: 12, Ptrs: places, Elem: 8, ElemPtrs: places}}, api.Desc{Elem: 8, ElemPtrs: places})
		return l
	})
}

func TestAnswersOfTwoCallsAreApart(t *testing.T) {
	l := sparedKinds(5)
	d := api.Desc{Size: 12, Ptrs: []int{8}}
	a, _, _ := kinds.Add(l, d)
	b, _, _ := kinds.Add(l, d)
	c, _, _ := kinds.Add(a, api.Desc{Size: 20})
	e, _, _ := kinds.Add(a, d)
	overwrite(a)
	want := append(row(5), d)
	if !equals(b, want) || !equals(c, append(want, api.Desc{Size: 20})) || !equals(e, want) {
		t.Error(b, c, e)
	}
	f, _, _ := kinds.Parse(writtenAll(want))
	g, _, _ := kinds.Parse(writtenAll(want))
	overwrite(f)
	if !equals(g, want) {
		t.Error(g)
	}
}
