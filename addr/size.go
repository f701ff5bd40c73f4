package addr

import "selion/api"

// sized is a class of sizes, with its least and its greatest one.
type sized struct {
	class int
	least int
	most  int
}

// classes are all sizes there are: what is in none of them is no size.
var classes = [3]sized{
	{class: api.Small, least: 1, most: api.Line},
	{class: api.Medium, least: api.Line + 1, most: api.MaxMedium},
	{class: api.Large, least: api.MaxMedium + 1, most: api.MaxArena},
}

func eachClass(yield func(sized) bool) {
	for _, s := range classes {
		if !yield(s) {
			return
		}
	}
}

// classOf is a number's class, or 0, if it is no size.
func classOf(n int) int {
	for s := range eachClass {
		if n >= s.least && n <= s.most {
			return s.class
		}
	}
	return 0
}
