package head

import "selion/api"

// lead is the first of a head's bytes.
const lead = 0xb5

const byteBits = 8

// field is one of a head's numbers: from what on, up to what, in how many bytes.
type field struct {
	least, most int
	size        int
}

// fields are in the order of their bytes: Kind, Class, Epoch, Len.
var fields = [4]field{
	{least: 1, most: api.MaxKinds, size: 1},
	{least: api.Small, most: api.Large, size: 1},
	{least: 0, most: api.MaxEpoch, size: 1},
	{least: 0, most: api.MaxLen, size: 3},
}

// nearest is the number that the field may have and that is the nearest to n.
func (f field) nearest(n int) int {
	return min(max(n, f.least), f.most)
}

// coder tells where in its head numbers and bytes belong.
type coder struct {
	api.Mark
}

// numbers yields its head's numbers, in the order of their bytes, each with its field.
func (c *coder) numbers(yield func(field, *int) bool) {
	for i, n := range [len(fields)]*int{&c.Kind, &c.Class, &c.Epoch, &c.Len} {
		if !yield(fields[i], n) {
			return
		}
	}
}

// bytes yields for each byte between the first and the last one the number that
// it is of, and how far up its bits stand in that.
func (c *coder) bytes(yield func(*int, int) bool) {
	for f, n := range c.numbers {
		for i := range f.size {
			if !yield(n, byteBits*i) {
				return
			}
		}
	}
}

// nearest is the right head whose numbers are the nearest to m's: m itself just
// if m is right.
func nearest(m api.Mark) api.Mark {
	c := coder{m}
	for f, n := range c.numbers {
		*n = f.nearest(*n)
	}
	return c.Mark
}

// write are a right head's bytes.
func write(m api.Mark) string {
	c := coder{m}
	text := []byte{lead}
	for n, up := range c.bytes {
		text = append(text, byte(*n>>up))
	}
	return string(append(text, even(text...)))
}

// read is the one head whose bytes these may be. It needn't be right, nor need
// they be its bytes: what is not there counts as 0, what is too much as nothing.
func read(s string) api.Mark {
	var c coder
	at := 1
reading:
	for n, up := range c.bytes {
		if at >= len(s) {
			break reading
		}
		*n |= int(s[at]) << up
		at++
	}
	return c.Mark
}

// even is the byte that makes each binary digit 1 an even number of times.
func even(parts ...byte) byte {
	var sum byte
	for _, b := range parts {
		sum ^= b
	}
	return sum
}
