// Package addr is layer 1: see shared/doc/01-addr.md.
package addr

import "selion/api"

// Right tells whether a number is an address.
func Right(a int) bool {
	return a >= 0 && a < api.MaxArena
}

// Split are an address's block, its line in that, its byte in that.
func Split(a int) (int, int, int, api.Errno) {
	if e := told(noAddress(a)); e != api.OK {
		return 0, 0, 0, e
	}
	p := placeOf(a)
	return p[inArena], p[inBlock], p[inLine], api.OK
}

// Join is the address of a block, a line in that, a byte in that.
func Join(block int, line int, at int) (int, api.Errno) {
	p := place{block, line, at}
	if e := told(noPlace(p)); e != api.OK {
		return 0, e
	}
	return p.sum(), api.OK
}

// Span are the first and the last line of the arena that n bytes from a on lie in.
func Span(a int, n int) (int, int, api.Errno) {
	if e := told(noBytes(n), noAddress(a), pastEnd(a, n)); e != api.OK {
		return 0, 0, e
	}
	return lineOf(a), lineOf(a + n - 1), api.OK
}

// Round is a size, rounded up to granules.
func Round(n int) (int, api.Errno) {
	if e := told(noSize(n)); e != api.OK {
		return 0, e
	}
	return upTo(n, api.Granule) * api.Granule, api.OK
}

// Class is a size's class.
func Class(n int) (int, api.Errno) {
	if e := told(noSize(n)); e != api.OK {
		return 0, e
	}
	return classOf(n), api.OK
}

// Blocks is how many blocks a size needs.
func Blocks(n int) (int, api.Errno) {
	if e := told(noSize(n)); e != api.OK {
		return 0, e
	}
	return upTo(n, api.Block), api.OK
}

// Ref is the reference of the granule at an address.
func Ref(a int) (int, api.Errno) {
	if e := told(noAddress(a), noGranule(a)); e != api.OK {
		return 0, e
	}
	return a/api.Granule + 1, api.OK
}

// Addr is the address of a reference's granule.
func Addr(ref int) (int, api.Errno) {
	if e := told(noRef(ref)); e != api.OK {
		return 0, e
	}
	return (ref - 1) * api.Granule, api.OK
}

// upTo is how many units n bytes need.
func upTo(n int, unit int) int {
	return (n + unit - 1) / unit
}
