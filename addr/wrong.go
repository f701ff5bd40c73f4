package addr

import (
	"errors"

	"selion/api"
)

var (
	errAddr = errors.New("addr: no address")
	errSize = errors.New("addr: no size")
	errRef  = errors.New("addr: no reference")
)

// granules is how many the greatest arena has, and so the greatest reference.
const granules = api.MaxArena / api.Granule

// wrong tells what is wrong, once it is asked; one that stands behind others
// may lean on it that nothing is wrong by these.
type wrong func() error

// told is the number of the first thing that is wrong.
func told(wrongs ...wrong) api.Errno {
	for _, ask := range wrongs {
		if e := numberOf(ask()); e != api.OK {
			return e
		}
	}
	return api.OK
}

func numberOf(err error) api.Errno {
	switch {
	case errors.Is(err, errAddr):
		return api.ErrAddr
	case errors.Is(err, errSize):
		return api.ErrSize
	case errors.Is(err, errRef):
		return api.ErrRef
	}
	return api.OK
}

func unless(holds bool, err error) error {
	if holds {
		return nil
	}
	return err
}

func noAddress(a int) wrong {
	return func() error { return unless(Right(a), errAddr) }
}

func noGranule(a int) wrong {
	return func() error { return unless(a%api.Granule == 0, errAddr) }
}

// noPlace splits the sum again, as numbers that are no place may sum up to an
// address all the same (a line -1 does, or one so great that the sum wraps round).
func noPlace(p place) wrong {
	return func() error {
		a := p.sum()
		return unless(Right(a) && placeOf(a) == p, errAddr)
	}
}

func noBytes(n int) wrong {
	return func() error { return unless(n >= 1, errAddr) }
}

// pastEnd adds nothing to n, which may be as great as numbers are; a is an address.
func pastEnd(a int, n int) wrong {
	return func() error { return unless(n <= api.MaxArena-a, errAddr) }
}

func noSize(n int) wrong {
	return func() error { return unless(classOf(n) != 0, errSize) }
}

func noRef(ref int) wrong {
	return func() error { return unless(ref >= 1 && ref <= granules, errRef) }
}
