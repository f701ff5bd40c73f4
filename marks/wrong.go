package marks

import (
	"errors"

	"selion/api"
)

var (
	errTable = errors.New("marks: no table")
	errSize  = errors.New("marks: no right extent")
)

// told is the number of the first thing that is wrong.
func told(wrongs ...error) api.Errno {
	for _, err := range wrongs {
		switch {
		case errors.Is(err, errTable):
			return api.ErrTable
		case errors.Is(err, errSize):
			return api.ErrSize
		}
	}
	return api.OK
}

func noTables(tables ...table) error {
	for _, t := range tables {
		if !t.right() {
			return errTable
		}
	}
	return nil
}
