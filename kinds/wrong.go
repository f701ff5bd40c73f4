package kinds

import (
	"errors"

	"selion/api"
	"selion/desc"
)

var (
	errDesc  = errors.New("kinds: no right descriptor")
	errEnd   = errors.New("kinds: a line without an end")
	errTwice = errors.New("kinds: the same as an earlier one")
	errMany  = errors.New("kinds: too many")
	errKind  = errors.New("kinds: no kind's number")
)

// wrong is what is wrong, with the number that is answered for it.
type wrong struct {
	number api.Errno
	cause  error
}

func (w wrong) Error() string {
	return w.cause.Error()
}

func (w wrong) Unwrap() error {
	return w.cause
}

// told is the number of the first thing that is wrong.
func told(wrongs ...error) api.Errno {
	for _, err := range wrongs {
		var w wrong
		if errors.As(err, &w) {
			return w.number
		}
	}
	return api.OK
}

func unless(holds bool, w wrong) error {
	if holds {
		return nil
	}
	return w
}

// noKinds holds how many they are first, so that a long list costs no more than
// a right one.
func noKinds(l ...api.Desc) error {
	if len(l) > api.MaxKinds {
		return wrong{api.ErrKinds, errMany}
	}
	for i, d := range l {
		if err := noDesc(d); err != nil {
			return wrong{api.ErrKinds, err}
		}
		if _, twice := Find(l[:i:i], d); twice {
			return wrong{api.ErrKinds, errTwice}
		}
	}
	return nil
}

func noDesc(d api.Desc) error {
	return unless(desc.Right(d), wrong{api.ErrDesc, errDesc})
}

func noKind(kind int, kinds int) error {
	return unless(kind >= 1 && kind <= kinds, wrong{api.ErrKind, errKind})
}

// noRoom tells what is wrong with one more behind so many.
func noRoom(kinds int) error {
	return unless(kinds < api.MaxKinds, wrong{api.ErrMany, errMany})
}
