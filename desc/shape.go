package desc

import (
	"iter"

	"selion/addr"
	"selion/api"
)

// wordSize is how many bytes a field has.
const wordSize = 4

// isPart tells whether a descriptor's part, its fixed bytes or an element's, is
// right: how many they are, at most most, and the places of the pointers in it.
func isPart(most int, size int, ptrs ...int) bool {
	if size < 0 || size > most || size%wordSize != 0 {
		return false
	}
	least := 0
	for _, p := range ptrs {
		if p < least || p >= size || p%wordSize != 0 {
			return false
		}
		least = p + wordSize
	}
	return true
}

// shape is a right descriptor with a length that is right for it, and how many
// bytes such an object has, rounded.
type shape struct {
	api.Desc
	length int
	bytes  int
}

func shaped(d api.Desc, n int) (shape, error) {
	if err := noDesc(d); err != nil {
		return shape{}, err
	}
	if err := noLength(d, n); err != nil {
		return shape{}, err
	}
	s := shape{Desc: d, length: n}
	bytes, e := addr.Round(api.Head + s.end())
	if e != api.OK {
		return shape{}, wrong{api.ErrLen, errLen}
	}
	s.bytes = bytes
	return s, nil
}

// end is the place behind the last field.
func (s shape) end() int {
	return s.Size + s.length*s.Elem
}

func (s shape) isField(at int) bool {
	return at >= 0 && at < s.end() && at%wordSize == 0
}

// pointers yields the places of the pointers in the fixed bytes and in so many
// elements, rising.
func (s shape) pointers(elements int) iter.Seq[int] {
	return func(yield func(int) bool) {
		tell := func(base int, ptrs ...int) bool {
			for _, p := range ptrs {
				if !yield(base + p) {
					return false
				}
			}
			return true
		}
		more := tell(0, s.Ptrs...)
		for i := 0; more && i < elements; i++ {
			more = tell(s.Size+i*s.Elem, s.ElemPtrs...)
		}
	}
}

// kind is what is at a place. All elements are alike, so that the first one
// tells for the others.
func (s shape) kind(at int) int {
	if !s.isField(at) {
		return api.None
	}
	kind, place := api.Scalar, s.inFirst(at)
search:
	for p := range s.pointers(1) {
		switch {
		case p == place:
			kind = api.Pointer
			break search
		case p > place:
			break search
		}
	}
	return kind
}

// inFirst is a field's place, if it lies in an element: the one that the same
// field of the first element has.
func (s shape) inFirst(at int) int {
	if at < s.Size {
		return at
	}
	return s.Size + (at-s.Size)%s.Elem
}
