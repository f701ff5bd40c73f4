package desc

import (
	"strconv"
	"strings"

	"selion/api"
)

// What stands between the numbers of a text.
const (
	behindSize   = ":"
	aheadOfPlace = " "
	betweenParts = "; "
)

// partText is the text of one of a descriptor's two parts.
func partText(size int, ptrs ...int) string {
	var text strings.Builder
	text.WriteString(strconv.Itoa(size))
	text.WriteString(behindSize)
	for _, p := range ptrs {
		text.WriteString(aheadOfPlace)
		text.WriteString(strconv.Itoa(p))
	}
	return text.String()
}

// reader reads a text from its beginning on: rest is what it has not read yet.
// Once something is wrong, there is no more to read.
type reader struct {
	rest string
	err  error
}

// read is the descriptor, right or not, that a text tells.
func read(s string) (api.Desc, error) {
	var d api.Desc
	r := reader{rest: s}
	d.Size, d.Ptrs = r.part()
	r.must(betweenParts)
	d.Elem, d.ElemPtrs = r.part()
	if r.rest != "" {
		r.fail()
	}
	return d, r.err
}

func (r *reader) fail() {
	r.rest = ""
	r.err = wrong{api.ErrDesc, errText}
}

// part reads one of a descriptor's two parts. It leaves places that are too
// many for the part, as a long text would fill memory with them.
func (r *reader) part() (int, []int) {
	var ptrs []int
	size := r.number()
	r.must(behindSize)
	for len(ptrs) < size && r.has(aheadOfPlace) {
		ptrs = append(ptrs, r.number())
	}
	return size, ptrs
}

// has reads what stands between numbers, if it is next.
func (r *reader) has(sign string) bool {
	rest, found := strings.CutPrefix(r.rest, sign)
	r.rest = rest
	return found
}

func (r *reader) must(sign string) {
	if !r.has(sign) {
		r.fail()
	}
}

// number reads decimal digits, without noughts ahead. Those behind a number that
// is too great already are wrong, so that none is too great for an int.
func (r *reader) number() int {
	n, end := 0, 0
	for i, digit := range r.rest {
		if digit < '0' || digit > '9' {
			break
		}
		if i > 0 && n == 0 || n > api.MaxFixed {
			goto none
		}
		n = 10*n + int(digit-'0')
		end = i + 1
	}
	if end == 0 {
		goto none
	}
	r.rest = r.rest[end:]
	return n
none:
	r.fail()
	return 0
}
