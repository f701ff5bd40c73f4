package arena_test

import (
	"math"
	"strings"
	"testing"

	"selion/api"
	"selion/arena"
)

// The tests hold the program against a model of one number a byte, and write
// limits as numbers, so that the document's words are what is asked for.

// far are numbers that are in no arena; some wrap round with few bytes behind them.
var far = []int{-1, -2, -4, -8, -4096, -131072, 131072, 131076, 135168, 1 << 32, 1<<32 + 4, 1 << 62, math.MaxInt, math.MaxInt - 3, math.MaxInt - 7, math.MinInt, math.MinInt + 4, math.MinInt + 8}

func made(t *testing.T, blocks int) *arena.Arena {
	t.Helper()
	a, e := arena.New(blocks)
	if a == nil || e != api.OK {
		t.Fatal(blocks, a, e)
	}
	return a
}

// model is what is in an arena, byte by byte.
type model []byte

func (m model) count() int {
	n := 0
	for _, b := range m {
		if b > 0 {
			n++
		}
	}
	return n
}

func (m model) word(at int) uint32 {
	return uint32(m[at]) + 256*uint32(m[at+1]) + 65536*uint32(m[at+2]) + 16777216*uint32(m[at+3])
}

func (m model) setWord(at int, v uint32) {
	for i := range 4 {
		m[at+i] = byte(v % 256)
		v /= 256
	}
}

// same holds all that an arena tells against a model.
func same(t *testing.T, a *arena.Arena, m model) {
	t.Helper()
	if s, e := a.Read(0, len(m)); s != string(m) || e != api.OK {
		t.Fatal("other bytes", e)
	}
	if a.Size() != len(m) || a.Count() != m.count() {
		t.Fatal(a.Size(), len(m), a.Count(), m.count())
	}
}

// patterned is an arena in which no two words are alike, with its model.
func patterned(t *testing.T, blocks int) (*arena.Arena, model) {
	t.Helper()
	a := made(t, blocks)
	m := make(model, 4096*blocks)
	for at := 0; at < len(m); at += 4 {
		m.setWord(at, uint32(at)*2654435761+12345)
	}
	if e := a.Write(0, string(m)); e != api.OK {
		t.Fatal(e)
	}
	same(t, a, m)
	return a, m
}

// P3.1

func TestNew(t *testing.T) {
	for blocks := 1; blocks <= 32; blocks++ {
		a := made(t, blocks)
		if a.Size() != 4096*blocks || a.Count() != 0 {
			t.Error(blocks, a.Size(), a.Count())
		}
		if s, e := a.Read(0, 4096*blocks); s != strings.Repeat("\x00", 4096*blocks) || e != api.OK {
			t.Error(blocks, len(s), e)
		}
	}
}

func TestNewOfWrongNumbers(t *testing.T) {
	for _, blocks := range []int{0, -1, -31, -32, 33, 34, 64, 1 << 20, 1 << 32, 1<<32 + 1, 1 << 52, 1<<52 + 1, math.MaxInt, math.MinInt, math.MinInt + 1} {
		if a, e := arena.New(blocks); a != nil || e != api.ErrArg {
			t.Error(blocks, a, e)
		}
	}
}

func TestCount(t *testing.T) {
	a := made(t, 1)
	for i := range 4096 {
		at := i * 1237 % 4096
		if e := a.Put(at, 1+i%255); e != api.OK || a.Count() != i+1 {
			t.Fatal(at, e, a.Count(), i+1)
		}
	}
	a.Put(0, 255)
	if a.Count() != 4096 {
		t.Error(a.Count())
	}
	a.Put(0, 0)
	if a.Count() != 4095 {
		t.Error(a.Count())
	}
}

func TestOfNil(t *testing.T) {
	// One that New did not give is none, as nil is.
	for _, a := range []*arena.Arena{nil, {}} {
		if a.Size() != 0 || a.Count() != 0 {
			t.Error(a.Size(), a.Count())
		}
		for _, at := range append([]int{0, 1, 4, 4095, 4096}, far...) {
			if v, e := a.Load(at); v != 0 || e != api.ErrNil {
				t.Error(at, v, e)
			}
			if v, e := a.Byte(at); v != 0 || e != api.ErrNil {
				t.Error(at, v, e)
			}
			if e := a.Store(at, 7); e != api.ErrNil {
				t.Error(at, e)
			}
			for _, v := range []int{0, 7, -1, 256} {
				if e := a.Put(at, v); e != api.ErrNil {
					t.Error(at, v, e)
				}
			}
			for _, n := range append([]int{0, 1, 4096}, far...) {
				if s, e := a.Read(at, n); s != "" || e != api.ErrNil {
					t.Error(at, n, s, e)
				}
				if e := a.Zero(at, n); e != api.ErrNil {
					t.Error(at, n, e)
				}
			}
			for _, s := range []string{"", "abc"} {
				if e := a.Write(at, s); e != api.ErrNil {
					t.Error(at, s, e)
				}
			}
		}
	}
}

// P3.2

func TestLoadOfAllAddresses(t *testing.T) {
	for _, blocks := range []int{1, 2, 32} {
		a, m := patterned(t, blocks)
		for at := -9; at < len(m)+9; at++ {
			v, e := a.Load(at)
			if at >= 0 && at < len(m) && at%4 == 0 {
				if v != m.word(at) || e != api.OK {
					t.Fatal(blocks, at, v, e)
				}
			} else if v != 0 || e != api.ErrAddr {
				t.Fatal(blocks, at, v, e)
			}
		}
	}
}

func TestByteOfAllAddresses(t *testing.T) {
	for _, blocks := range []int{1, 2, 32} {
		a, m := patterned(t, blocks)
		for at := -9; at < len(m)+9; at++ {
			v, e := a.Byte(at)
			if at >= 0 && at < len(m) {
				if v != int(m[at]) || e != api.OK {
					t.Fatal(blocks, at, v, e)
				}
			} else if v != 0 || e != api.ErrAddr {
				t.Fatal(blocks, at, v, e)
			}
		}
	}
}

func TestStoreHasTheLeastPartFirst(t *testing.T) {
	a := made(t, 1)
	if e := a.Store(8, 258); e != api.OK {
		t.Fatal(e)
	}
	for i, want := range []int{0, 2, 1, 0, 0, 0} {
		if v, e := a.Byte(7 + i); v != want || e != api.OK {
			t.Error(7+i, v, e)
		}
	}
	if e := a.Store(8, 0xfffefdfc); e != api.OK {
		t.Fatal(e)
	}
	if s, e := a.Read(7, 6); s != "\x00\xfc\xfd\xfe\xff\x00" || e != api.OK {
		t.Errorf("%q %v", s, e)
	}
}

func TestStoreAndPutOfAllAddresses(t *testing.T) {
	for _, blocks := range []int{1, 3} {
		a, m := patterned(t, blocks)
		for at := 0; at < len(m); at++ {
			want := api.OK
			if at%4 != 0 {
				want = api.ErrAddr
			} else {
				m.setWord(at, math.MaxUint32-uint32(at)*7)
			}
			if e := a.Store(at, math.MaxUint32-uint32(at)*7); e != want {
				t.Fatal(at, e)
			}
			if at < 16 || at > len(m)-16 {
				same(t, a, m)
			}
		}
		same(t, a, m)
		for at := 0; at < len(m); at++ {
			m[at] = byte(at * 3)
			if e := a.Put(at, at*3%256); e != api.OK {
				t.Fatal(at, e)
			}
			if at < 16 || at > len(m)-16 {
				same(t, a, m)
			}
		}
		same(t, a, m)
	}
}

func TestWordsOutsideChangeNothing(t *testing.T) {
	for _, blocks := range []int{1, 2, 31, 32} {
		a, m := patterned(t, blocks)
		for _, at := range append([]int{1, 2, 3, 5, len(m) - 3, len(m) - 2, len(m) - 1, len(m), len(m) + 1, len(m) + 4}, far...) {
			if v, e := a.Load(at); v != 0 || e != api.ErrAddr {
				t.Error(at, v, e)
			}
			if e := a.Store(at, 0); e != api.ErrAddr {
				t.Error(at, e)
			}
		}
		same(t, a, m)
	}
}

func TestBytesOutsideChangeNothing(t *testing.T) {
	for _, blocks := range []int{1, 2, 31, 32} {
		a, m := patterned(t, blocks)
		for _, at := range append([]int{len(m), len(m) + 1}, far...) {
			if v, e := a.Byte(at); v != 0 || e != api.ErrAddr {
				t.Error(at, v, e)
			}
			for _, v := range []int{0, 1, 255, -1, 256, math.MinInt} {
				if e := a.Put(at, v); e != api.ErrAddr {
					t.Error(at, v, e)
				}
			}
		}
		same(t, a, m)
	}
}

func TestPutOfAllValues(t *testing.T) {
	a := made(t, 1)
	for v := range 256 {
		if e := a.Put(100, v); e != api.OK {
			t.Error(v, e)
		}
		if b, e := a.Byte(100); b != v || e != api.OK {
			t.Error(v, b, e)
		}
	}
	a, m := patterned(t, 1)
	for _, v := range []int{-1, -2, -255, -256, 256, 257, 511, 512, 1 << 32, 1<<32 + 1, math.MaxInt, math.MinInt, math.MinInt + 1} {
		for _, at := range []int{0, 1, 4095} {
			if e := a.Put(at, v); e != api.ErrArg {
				t.Error(at, v, e)
			}
		}
	}
	same(t, a, m)
}

// P3.3

// ends are numbers around the ends of lines, of blocks and of an arena.
func ends(size int) []int {
	return append([]int{0, 1, 2, 3, 4, 7, 127, 128, 129, 4095, 4096, 4097, 5000, size - 4097, size - 4096, size - 129, size - 5, size - 4, size - 1, size, size + 1, size + 4}, far...)
}

// apart tells whether n bytes from one on are bytes of an arena of a size.
func apart(size, from, n int) bool {
	return from >= 0 && n >= 0 && from <= size && n <= size-from
}

func TestReadAtTheEnds(t *testing.T) {
	for _, blocks := range []int{1, 2, 32} {
		a, m := patterned(t, blocks)
		for _, from := range ends(len(m)) {
			for _, n := range ends(len(m)) {
				s, e := a.Read(from, n)
				if apart(len(m), from, n) {
					if s != string(m[from:from+n]) || e != api.OK {
						t.Fatal(from, n, len(s), e)
					}
				} else if s != "" || e != api.ErrAddr {
					t.Fatal(from, n, len(s), e)
				}
			}
		}
		same(t, a, m)
	}
}

func TestZeroAtTheEnds(t *testing.T) {
	for _, blocks := range []int{1, 2} {
		for _, from := range ends(4096 * blocks) {
			a, m := patterned(t, blocks)
			for _, n := range ends(4096 * blocks) {
				want := api.ErrAddr
				if apart(len(m), from, n) {
					want = api.OK
					for at := from; at < from+n; at++ {
						m[at] = 0
					}
				}
				if e := a.Zero(from, n); e != want {
					t.Fatal(from, n, e)
				}
				same(t, a, m)
			}
		}
	}
}

func TestWriteAtTheEnds(t *testing.T) {
	for _, blocks := range []int{1, 2} {
		for _, from := range ends(4096 * blocks) {
			a, m := patterned(t, blocks)
			for _, n := range ends(4096 * blocks) {
				if n < 0 || n > 4096*blocks+4 {
					continue
				}
				s := strings.Repeat("a\x00\xffbcd", n/6+1)[:n]
				want := api.ErrAddr
				if apart(len(m), from, n) {
					want = api.OK
					for i := range n {
						m[from+i] = s[i]
					}
				}
				if e := a.Write(from, s); e != want {
					t.Fatal(from, n, e)
				}
				same(t, a, m)
			}
		}
	}
}

func TestWholeArenaAtOnce(t *testing.T) {
	a := made(t, 32)
	s := strings.Repeat("\x01\x02\x00\xff", 32768)
	if e := a.Write(0, s); e != api.OK || a.Count() != 98304 {
		t.Error(e, a.Count())
	}
	if back, e := a.Read(0, 131072); back != s || e != api.OK {
		t.Error(len(back), e)
	}
	if e := a.Write(0, s+"a"); e != api.ErrAddr {
		t.Error(e)
	}
	if e := a.Zero(0, 131073); e != api.ErrAddr || a.Count() != 98304 {
		t.Error(e, a.Count())
	}
	if e := a.Zero(0, 131072); e != api.OK || a.Count() != 0 {
		t.Error(e, a.Count())
	}
}

func TestNoBytesAreInAllPlaces(t *testing.T) {
	a, m := patterned(t, 1)
	for from := -2; from < 4100; from++ {
		want := api.OK
		if from < 0 || from > 4096 {
			want = api.ErrAddr
		}
		s, e := a.Read(from, 0)
		if f, g := a.Zero(from, 0), a.Write(from, ""); s != "" || e != want || f != want || g != want {
			t.Fatal(from, s, e, f, g)
		}
	}
	same(t, a, m)
}

// P3.4

// changes does n of them, of all kinds and all over the arena, to it and to its model.
func changes(t *testing.T, a *arena.Arena, m model, n int) {
	t.Helper()
	seed := uint32(7)
	next := func(below int) int {
		seed = seed*1664525 + 1013904223
		return int(seed>>8) % below
	}
	for i := range n {
		at := next(len(m))
		many := next(min(300, len(m)-at) + 1)
		e := api.OK
		switch i % 4 {
		case 0:
			at = at / 4 * 4
			v := uint32(next(1<<24)) * 257
			m.setWord(at, v)
			e = a.Store(at, v)
		case 1:
			v := next(256)
			m[at] = byte(v)
			e = a.Put(at, v)
		case 2:
			clear(m[at : at+many])
			e = a.Zero(at, many)
		case 3:
			s := strings.Repeat(string([]byte{byte(next(256)), byte(i)}), 200)[:many]
			copy(m[at:], s)
			e = a.Write(at, s)
		}
		if e != api.OK {
			t.Fatal(i, at, many, e)
		}
		same(t, a, m)
	}
}

func TestWhatIsWrittenIsRead(t *testing.T) {
	for _, blocks := range []int{1, 2, 5} {
		a, m := patterned(t, blocks)
		changes(t, a, m, 3000)
		for at := range m {
			if v, e := a.Byte(at); v != int(m[at]) || e != api.OK {
				t.Fatal(at, v, e)
			}
		}
		for at := 0; at < len(m); at += 4 {
			if v, e := a.Load(at); v != m.word(at) || e != api.OK {
				t.Fatal(at, v, e)
			}
		}
	}
}

func TestArenasShareNothing(t *testing.T) {
	a, m := patterned(t, 1)
	b := made(t, 1)
	if b.Count() != 0 {
		t.Error(b.Count())
	}
	b.Write(0, strings.Repeat("x", 4096))
	same(t, a, m)
	a.Zero(0, 4096)
	if b.Count() != 4096 {
		t.Error(b.Count())
	}
}

func TestWhatWasReadStays(t *testing.T) {
	a := made(t, 1)
	a.Write(10, "hello")
	s, _ := a.Read(10, 5)
	a.Zero(0, 4096)
	if s != "hello" {
		t.Errorf("%q", s)
	}
}
