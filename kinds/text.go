package kinds

import (
	"iter"
	"strings"

	"selion/api"
	"selion/desc"
)

// lineEnd stands behind each kind's text.
const lineEnd = "\n"

// known are kinds, and their numbers by their texts: a right descriptor has one
// text, so that it is known just if its text is.
type known struct {
	list    []api.Desc
	numbers map[string]int
}

// learn puts a right descriptor behind the others.
func (k *known) learn(text string, d api.Desc) error {
	if _, twice := k.numbers[text]; twice {
		return wrong{api.ErrTwice, errTwice}
	}
	if err := noRoom(len(k.list)); err != nil {
		return err
	}
	k.list = append(k.list, d)
	k.numbers[text] = len(k.list)
	return nil
}

// reader reads kinds, line by line: line is the number of the last one that it
// has read, err what is wrong with that.
type reader struct {
	known
	line int
	err  error
}

// read reads a text up to the first line that is wrong.
func read(s string) reader {
	r := reader{known: known{numbers: map[string]int{}}}
reading:
	for number, line := range lines(s) {
		r.line, r.err = number, r.take(line)
		if r.err != nil {
			break reading
		}
	}
	return r
}

// take reads a line.
func (r *reader) take(line string) error {
	text, ended := strings.CutSuffix(line, lineEnd)
	if !ended {
		return wrong{api.ErrDesc, errEnd}
	}
	d, e := desc.Parse(text)
	if e != api.OK {
		return wrong{api.ErrDesc, errDesc}
	}
	return r.learn(text, d)
}

// lines yields a text's lines, numbered from 1 on, each with its end; what
// stands behind the last end is a line without one.
func lines(s string) iter.Seq2[int, string] {
	return func(yield func(int, string) bool) {
		number := 0
		for line := range strings.Lines(s) {
			number++
			if !yield(number, line) {
				return
			}
		}
	}
}
