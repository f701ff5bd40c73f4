package head_test

import (
	"math"
	"slices"
	"strings"
	"testing"

	"selion/api"
	"selion/arena"
	"selion/head"
)

// The tests put a head's bytes together number by number, and write limits as
// numbers, so that they hold the document's words against the program.

// far are numbers that none of a head's may be; some are right ones, if they are cut short.
var far = []int{-1, -2, -8, -255, -256, -4096, 40001, 40960, 65536, 65537, 1 << 24, 1<<24 + 1, 1 << 31, 1 << 32, 1<<32 + 1, 1<<32 + 8, 1<<40 + 1, 1 << 62, math.MaxInt, math.MaxInt - 7, math.MinInt, math.MinInt + 1, math.MinInt + 8}

// good tells by the document's words whether a head is right.
func good(m api.Mark) bool {
	within := func(n, least, most int) bool { return n >= least && n <= most }
	return within(m.Kind, 1, 60) && within(m.Len, 0, 40000) && within(m.Class, 1, 3) && within(m.Epoch, 0, 255)
}

// closed are seven bytes with the eighth, found by counting each binary digit.
func closed(seven [7]byte) string {
	last := 0
	for digit := 1; digit < 256; digit *= 2 {
		ones := 0
		for _, b := range seven {
			ones += int(b) / digit % 2
		}
		last += ones % 2 * digit
	}
	return string(append(seven[:], byte(last)))
}

// coded are the bytes of a right head.
func coded(m api.Mark) string {
	return closed([7]byte{181, byte(m.Kind), byte(m.Class), byte(m.Epoch), byte(m.Len % 256), byte(m.Len / 256), 0})
}

// meant is the right head whose bytes they are, if there is one.
func meant(s string) (api.Mark, bool) {
	if len(s) != 8 {
		return api.Mark{}, false
	}
	m := api.Mark{Kind: int(s[1]), Class: int(s[2]), Epoch: int(s[3]), Len: int(s[4]) + 256*int(s[5]) + 65536*int(s[6])}
	if !good(m) || coded(m) != s {
		return api.Mark{}, false
	}
	return m, true
}

// some are right heads, with all ends of all numbers.
func some() []api.Mark {
	var all []api.Mark
	for _, kind := range []int{1, 2, 17, 59, 60} {
		for _, n := range []int{0, 1, 255, 256, 300, 32767, 32768, 39999, 40000} {
			for class := 1; class <= 3; class++ {
				for _, epoch := range []int{0, 1, 7, 127, 128, 254, 255} {
					all = append(all, api.Mark{Kind: kind, Len: n, Class: class, Epoch: epoch})
				}
			}
		}
	}
	return all
}

// wrongs are heads with at least one number that is not right.
func wrongs() []api.Mark {
	all := []api.Mark{{}, {Kind: -1, Len: -1, Class: -1, Epoch: -1}, {Kind: 61, Len: 40001, Class: 4, Epoch: 256}}
	for _, m := range []api.Mark{{Kind: 1, Class: 1}, {Kind: 60, Len: 40000, Class: 3, Epoch: 255}, {Kind: 2, Len: 300, Class: 1, Epoch: 7}} {
		for _, n := range append([]int{0, 61, 62, 64, 255, 256, 257}, far...) {
			other := m
			other.Kind = n
			all = append(all, other)
		}
		for _, n := range append([]int{40002, 65535}, far...) {
			other := m
			other.Len = n
			all = append(all, other)
		}
		for _, n := range append([]int{0, 4, 5, 7, 255, 256, 257}, far...) {
			other := m
			other.Class = n
			all = append(all, other)
		}
		for _, n := range append([]int{256, 257, 511, 512}, far...) {
			other := m
			other.Epoch = n
			all = append(all, other)
		}
	}
	return all
}

// P6.1

func TestExamples(t *testing.T) {
	for s, m := range map[string]api.Mark{
		"\xb5\x02\x01\x07\x2c\x01\x00\x9c": {Kind: 2, Len: 300, Class: 1, Epoch: 7},
		"\xb5\x01\x01\x00\x00\x00\x00\xb5": {Kind: 1, Class: 1},
		"\xb5\x3c\x03\xff\x40\x9c\x00\xa9": {Kind: 60, Len: 40000, Class: 3, Epoch: 255},
	} {
		if back, e := head.Encode(m); back != s || e != api.OK {
			t.Errorf("%v %q %v", m, back, e)
		}
		if back, e := head.Decode(s); back != m || e != api.OK {
			t.Errorf("%q %v %v", s, back, e)
		}
	}
}

func TestRightHeads(t *testing.T) {
	for _, m := range some() {
		if !head.Right(m) {
			t.Fatal(m)
		}
		s, e := head.Encode(m)
		if s != coded(m) || e != api.OK {
			t.Fatalf("%v %q %v", m, s, e)
		}
		if back, e := head.Decode(s); back != m || e != api.OK {
			t.Fatalf("%q %v %v", s, back, e)
		}
	}
}

func TestWrongHeads(t *testing.T) {
	for _, m := range wrongs() {
		if head.Right(m) {
			t.Error(m)
		}
		if s, e := head.Encode(m); s != "" || e != api.ErrHead {
			t.Errorf("%v %q %v", m, s, e)
		}
	}
}

// All of a number's values, around its ends, with the others right.
func TestEachNumber(t *testing.T) {
	for n := -300; n <= 40300; n++ {
		for _, m := range []api.Mark{
			{Kind: n, Len: 300, Class: 1, Epoch: 7},
			{Kind: 2, Len: n, Class: 2, Epoch: 7},
			{Kind: 2, Len: 300, Class: n, Epoch: 7},
			{Kind: 2, Len: 300, Class: 3, Epoch: n},
		} {
			right, want, err := good(m), "", api.ErrHead
			if right {
				want, err = coded(m), api.OK
			}
			if s, e := head.Encode(m); head.Right(m) != right || s != want || e != err {
				t.Fatalf("%v %q %v", m, s, e)
			}
		}
	}
}

// decoded holds Decode against the document's words.
func decoded(t *testing.T, s string) {
	t.Helper()
	want, found := meant(s)
	err := api.OK
	if !found {
		err = api.ErrHead
	}
	if m, e := head.Decode(s); m != want || e != err {
		t.Fatalf("%q: %v %v", s, m, e)
	}
}

func TestDecodeOfOtherLengths(t *testing.T) {
	for _, m := range some() {
		s := coded(m)
		for i := range len(s) {
			decoded(t, s[:i])
			decoded(t, s[i+1:])
			decoded(t, s[:i]+s[i+1:])
			decoded(t, s+s[:i+1])
			decoded(t, s[:i]+"\x00"+s[i:])
		}
		decoded(t, s+"\x00")
		decoded(t, "\x00"+s)
	}
	for n := range 20 {
		for _, b := range []string{"\x00", "\x01", "\xb5", "\xff"} {
			decoded(t, strings.Repeat(b, n))
		}
	}
	if m, e := head.Decode(strings.Repeat("\xb5\x01\x01\x00\x00\x00\x00\xb5", 1<<20)); m != (api.Mark{}) || e != api.ErrHead {
		t.Error(m, e)
	}
}

// Two bytes are changed so that the digits stay even: what is refused is refused for its numbers.
func TestDecodeOfAllBytesThatAreEven(t *testing.T) {
	for _, m := range []api.Mark{{Kind: 1, Class: 1}, {Kind: 2, Len: 300, Class: 2, Epoch: 7}, {Kind: 60, Len: 40000, Class: 3, Epoch: 255}} {
		for i := range 8 {
			for j := range i {
				for b := range 256 {
					s := []byte(coded(m))
					s[i] ^= byte(b)
					s[j] ^= byte(b)
					decoded(t, string(s))
				}
			}
		}
	}
}

func TestDecodeOfAllLengthsInBytes(t *testing.T) {
	for _, high := range []byte{0, 1, 2, 0x80, 0xff} {
		for n := range 65536 {
			decoded(t, closed([7]byte{0xb5, 2, 1, 7, byte(n), byte(n >> 8), high}))
		}
	}
}

func TestDecodeOfAllFirstBytes(t *testing.T) {
	for first := range 256 {
		s := closed([7]byte{byte(first), 2, 1, 7, 0x2c, 1, 0})
		if _, e := head.Decode(s); (e == api.OK) != (first == 0xb5) {
			t.Errorf("%q %v", s, e)
		}
		decoded(t, s)
	}
}

func TestTurn(t *testing.T) {
	for epoch := range 255 {
		if head.Turn(epoch) != epoch+1 {
			t.Error(epoch, head.Turn(epoch))
		}
	}
	for _, epoch := range append([]int{255, 256, 257, 510, 511, 512}, far...) {
		if head.Turn(epoch) != 0 {
			t.Error(epoch, head.Turn(epoch))
		}
	}
}

// P6.2

// patterned is an arena full of bytes that are no head's, and those bytes.
func patterned(t *testing.T, blocks int) (*arena.Arena, []byte) {
	t.Helper()
	a, e := arena.New(blocks)
	if e != api.OK {
		t.Fatal(blocks, e)
	}
	all := make([]byte, 4096*blocks)
	for i := range all {
		all[i] = byte(i*37 + i/256)
		if i%8 == 0 {
			all[i] = 0xb4
		}
	}
	if e := a.Write(0, string(all)); e != api.OK {
		t.Fatal(e)
	}
	return a, all
}

// has holds all of an arena's bytes.
func has(t *testing.T, a *arena.Arena, all []byte) {
	t.Helper()
	if s, e := a.Read(0, len(all)); s != string(all) || e != api.OK || a.Size() != len(all) {
		t.Fatal("other bytes", e, a.Size())
	}
}

func TestPutAndGetOfAllAddresses(t *testing.T) {
	for _, blocks := range []int{1, 2} {
		a, all := patterned(t, blocks)
		heads := some()
		for at := -17; at < len(all)+17; at++ {
			m := heads[(at+17)%len(heads)]
			lies := at >= 0 && at%8 == 0 && at+8 <= len(all)
			before, after := api.ErrAddr, api.ErrAddr
			if lies {
				before, after = api.ErrHead, api.OK
			}
			if back, e := head.Get(a, at); back != (api.Mark{}) || e != before {
				t.Fatal(at, back, e)
			}
			if e := head.Put(a, at, m); e != after {
				t.Fatal(at, e)
			}
			if lies {
				copy(all[at:], coded(m))
			} else {
				m = api.Mark{}
			}
			if back, e := head.Get(a, at); back != m || e != after {
				t.Fatal(at, back, e)
			}
			has(t, a, all)
		}
	}
}

func TestPutAndGetAtTheEnds(t *testing.T) {
	m := api.Mark{Kind: 2, Len: 300, Class: 1, Epoch: 7}
	for blocks := 1; blocks <= 32; blocks++ {
		a, all := patterned(t, blocks)
		size := len(all)
		for _, at := range append([]int{1, 2, 3, 4, 5, 6, 7, 9, 12, size - 7, size - 4, size - 1, size, size + 1, size + 8, 131072, 131080}, far...) {
			if at >= 0 && at%8 == 0 && at < size {
				continue
			}
			if back, e := head.Get(a, at); back != (api.Mark{}) || e != api.ErrAddr {
				t.Error(blocks, at, back, e)
			}
			if e := head.Put(a, at, m); e != api.ErrAddr {
				t.Error(blocks, at, e)
			}
		}
		has(t, a, all)
		for _, at := range []int{0, 8, 120, 128, 4088, size - 4096, size - 128, size - 8} {
			if e := head.Put(a, at, m); e != api.OK {
				t.Error(blocks, at, e)
			}
			if back, e := head.Get(a, at); back != m || e != api.OK {
				t.Error(blocks, at, back, e)
			}
			copy(all[at:], coded(m))
		}
		has(t, a, all)
	}
}

// A head that is not right is told ahead of a wrong address, and puts nothing.
func TestPutOfWrongHeads(t *testing.T) {
	a, all := patterned(t, 1)
	for _, m := range wrongs() {
		for _, at := range append([]int{0, 8, 4088, 4, 4089, 4096}, far...) {
			if e := head.Put(a, at, m); e != api.ErrHead {
				t.Fatal(at, m, e)
			}
		}
	}
	has(t, a, all)
}

func TestPutAndGetOfNoArena(t *testing.T) {
	// One that arena.New did not give is none, as nil is.
	for _, a := range []*arena.Arena{nil, {}} {
		for _, at := range append([]int{0, 4, 8, 4088, 4096}, far...) {
			if m, e := head.Get(a, at); m != (api.Mark{}) || e != api.ErrNil {
				t.Error(at, m, e)
			}
			for _, m := range []api.Mark{{}, {Kind: 61, Class: 1}, {Kind: 2, Len: 300, Class: 1, Epoch: 7}} {
				if e := head.Put(a, at, m); e != api.ErrNil {
					t.Error(at, m, e)
				}
			}
		}
	}
}

func TestGetOfWhatOthersWrote(t *testing.T) {
	a, all := patterned(t, 1)
	for _, m := range some() {
		s := coded(m)
		copy(all[16:], s)
		if e := a.Write(16, s); e != api.OK {
			t.Fatal(e)
		}
		if back, e := head.Get(a, 16); back != m || e != api.OK {
			t.Fatal(m, back, e)
		}
		for i := range 8 {
			a.Put(16+i, int(s[i]^0x10))
			if back, e := head.Get(a, 16); back != (api.Mark{}) || e != api.ErrHead {
				t.Fatal(m, i, back, e)
			}
			a.Put(16+i, int(s[i]))
		}
	}
	// A head's bytes at an address that is not its own are none's.
	a.Write(28, coded(some()[0]))
	copy(all[28:], coded(some()[0]))
	if back, e := head.Get(a, 28); back != (api.Mark{}) || e != api.ErrAddr {
		t.Error(back, e)
	}
	has(t, a, all)
}

func TestGetOfAnEmptyArena(t *testing.T) {
	a, e := arena.New(3)
	if e != api.OK {
		t.Fatal(e)
	}
	for at := 0; at < 3*4096; at += 8 {
		if m, e := head.Get(a, at); m != (api.Mark{}) || e != api.ErrHead {
			t.Fatal(at, m, e)
		}
	}
}

// P6.3

func TestWhatIsPutIsGot(t *testing.T) {
	a, all := patterned(t, 32)
	heads := some()
	for round := range 3 {
		for at := 0; at < len(all); at += 8 {
			m := heads[(at/8*7+round)%len(heads)]
			if e := head.Put(a, at, m); e != api.OK {
				t.Fatal(at, m, e)
			}
		}
		for at := 0; at < len(all); at += 8 {
			want := heads[(at/8*7+round)%len(heads)]
			copy(all[at:], coded(want))
			if m, e := head.Get(a, at); m != want || e != api.OK {
				t.Fatal(at, m, e)
			}
		}
		has(t, a, all)
	}
}

func TestOneOtherByteIsNoHead(t *testing.T) {
	for _, m := range some() {
		for i := range 8 {
			for b := 1; b < 256; b++ {
				s := []byte(coded(m))
				s[i] ^= byte(b)
				if back, e := head.Decode(string(s)); back != (api.Mark{}) || e != api.ErrHead {
					t.Fatalf("%q %v %v", s, back, e)
				}
			}
		}
	}
}

func TestNoTwoHeadsHaveTheSameBytes(t *testing.T) {
	all := some()
	for n := range 40001 {
		all = append(all, api.Mark{Kind: 3, Len: n, Class: 1, Epoch: 9})
	}
	texts := make([]string, len(all))
	for i, m := range all {
		texts[i], _ = head.Encode(m)
	}
	slices.Sort(texts)
	if len(slices.Compact(texts)) != len(all) {
		t.Error(len(texts), len(all))
	}
}
