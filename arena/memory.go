package arena

import "iter"

// How many bytes a word has, and how many bits a byte.
const (
	wordSize = 4
	byteBits = 8
)

// memory are the bytes of an arena, by their addresses. What its methods are
// given lies in it.
type memory struct {
	bytes []byte
}

// part are n of its bytes, not copied: what is written into them is written here.
func (m *memory) part(from int, n int) []byte {
	return m.bytes[from : from+n]
}

// onward yields the bytes from an address on, each with how far it stands behind that.
func (m *memory) onward(at int) iter.Seq2[int, byte] {
	return func(yield func(int, byte) bool) {
		for i, b := range m.bytes[at:] {
			if !yield(i, b) {
				return
			}
		}
	}
}

// word is the word at an address, its least part first.
func (m *memory) word(at int) uint32 {
	var v uint32
bytes:
	for i, b := range m.onward(at) {
		switch i {
		case wordSize:
			break bytes
		default:
			v |= uint32(b) << (byteBits * i)
		}
	}
	return v
}

func (m *memory) setWord(at int, v uint32) {
	var word [wordSize]byte
	for i := range word {
		word[i] = byte(v >> (byteBits * i))
	}
	copy(m.part(at, wordSize), word[:])
}

// filled is how many bytes are not 0.
func (m *memory) filled() int {
	n := 0
	for _, b := range m.onward(0) {
		if b != 0 {
			n++
		}
	}
	return n
}
