package head

import (
	"errors"

	"selion/api"
	"selion/arena"
)

var (
	errNil  = errors.New("head: no arena")
	errHead = errors.New("head: no right head")
	errAddr = errors.New("head: no granule begins there")
)

// told is the number of the first thing that is wrong.
func told(wrongs ...error) api.Errno {
	for _, err := range wrongs {
		switch {
		case errors.Is(err, errNil):
			return api.ErrNil
		case errors.Is(err, errHead):
			return api.ErrHead
		case errors.Is(err, errAddr):
			return api.ErrAddr
		}
	}
	return api.OK
}

func unless(holds bool, err error) error {
	if holds {
		return nil
	}
	return err
}

// noArena asks for the size, as an arena that arena.New did not give has none.
func noArena(a *arena.Arena) error {
	return unless(a.Size() > 0, errNil)
}

func noHead(m api.Mark) error {
	return unless(nearest(m) == m, errHead)
}

// notOf tells what is wrong if s is not m's bytes.
func notOf(m api.Mark, s string) error {
	return unless(write(m) == s, errHead)
}

// noGranule asks where it begins alone: that it lies in the arena, the arena asks.
func noGranule(at int) error {
	return unless(at%api.Granule == 0, errAddr)
}
