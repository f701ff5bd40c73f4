package desc

import (
	"errors"

	"selion/api"
)

var (
	errDesc = errors.New("desc: no right descriptor")
	errLen  = errors.New("desc: no length for it")
	errText = errors.New("desc: no descriptor's text")
)

// wrong is what is wrong, with the number that is answered for it.
type wrong struct {
	number api.Errno
	cause  error
}

func (w wrong) Error() string {
	return w.cause.Error()
}

func (w wrong) Unwrap() error {
	return w.cause
}

// told is the number of the first thing that is wrong.
func told(wrongs ...error) api.Errno {
	for _, err := range wrongs {
		var w wrong
		if errors.As(err, &w) {
			return w.number
		}
	}
	return api.OK
}

func unless(holds bool, w wrong) error {
	if holds {
		return nil
	}
	return w
}

func noDesc(d api.Desc) error {
	return unless(Right(d), wrong{api.ErrDesc, errDesc})
}

// noLength holds n against limits alone, so that the bytes of a length that it
// lets through can be summed up; they may be too many still.
func noLength(d api.Desc, n int) error {
	most := api.MaxArena
	if d.Elem == 0 {
		most = 0
	}
	return unless(n >= 0 && n <= most, wrong{api.ErrLen, errLen})
}
