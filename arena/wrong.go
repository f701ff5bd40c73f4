package arena

import (
	"errors"

	"selion/addr"
	"selion/api"
)

var (
	errNil  = errors.New("arena: no arena")
	errArg  = errors.New("arena: no number for this")
	errAddr = errors.New("arena: no address in it")
)

// told is the number of the first thing that is wrong.
func told(wrongs ...error) api.Errno {
	for _, err := range wrongs {
		switch {
		case errors.Is(err, errNil):
			return api.ErrNil
		case errors.Is(err, errArg):
			return api.ErrArg
		case errors.Is(err, errAddr):
			return api.ErrAddr
		}
	}
	return api.OK
}

func unless(holds bool, err error) error {
	if holds {
		return nil
	}
	return err
}

func noArena(a *Arena) error {
	return unless(a != nil && len(a.bytes) > 0, errNil)
}

// sizeOf is how many bytes so many blocks have: one more than their last address.
func sizeOf(blocks int) (int, error) {
	last, e := addr.Join(blocks-1, api.Lines-1, api.Line-1)
	if e != api.OK {
		return 0, errArg
	}
	return last + 1, nil
}

func noWord(at int) error {
	return unless(at%wordSize == 0, errAddr)
}

func noByte(v int) error {
	return unless(v >= 0 && v <= 255, errArg)
}

// outside takes the parts, one behind the other, off the arena's size, as they
// may be so great that they can't be summed up.
func outside(a *Arena, parts ...int) error {
	rest := a.Size()
	for _, n := range parts {
		if n < 0 || n > rest {
			return errAddr
		}
		rest -= n
	}
	return nil
}
