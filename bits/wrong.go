package bits

import (
	"errors"

	"selion/api"
)

var (
	errArg   = errors.New("bits: no count of places")
	errBits  = errors.New("bits: not right")
	errPlace = errors.New("bits: no place")
)

// told is the number of the first thing that is wrong.
func told(wrongs ...error) api.Errno {
	for _, err := range wrongs {
		switch {
		case errors.Is(err, errArg):
			return api.ErrArg
		case errors.Is(err, errBits):
			return api.ErrBits
		case errors.Is(err, errPlace):
			return api.ErrPlace
		}
	}
	return api.OK
}

func unless(holds bool, err error) error {
	if holds {
		return nil
	}
	return err
}

func isCount(n int) bool {
	return n >= 0 && n <= api.MaxBits
}

func isPlace(b api.Bits, i int) bool {
	return i >= 0 && i < b.N
}

func noCount(n int) error {
	return unless(isCount(n), errArg)
}

func noBits(b api.Bits) error {
	return unless(Right(b), errBits)
}

func noPlace(b api.Bits, i int) error {
	return unless(isPlace(b, i), errPlace)
}

// noPlaces lets to be as great as N, as the place there is not meant any more.
func noPlaces(b api.Bits, from int, to int) error {
	return unless(from >= 0 && from <= to && to <= b.N, errPlace)
}

func notAsMany(a api.Bits, b api.Bits) error {
	return unless(a.N == b.N, errBits)
}
