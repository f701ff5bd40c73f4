package kinds

import "selion/api"

// behind are descriptors with more behind them. They are cut off their spare
// room, as that is the caller's.
func behind(l []api.Desc, more ...api.Desc) []api.Desc {
	return append(l[:len(l):len(l)], more...)
}

// copied are descriptors whose lists are new, too.
func copied(l ...api.Desc) []api.Desc {
	all := make([]api.Desc, len(l))
	for i, d := range l {
		d.Ptrs, d.ElemPtrs = copiedPlaces(d.Ptrs...), copiedPlaces(d.ElemPtrs...)
		all[i] = d
	}
	return all
}

func copiedPlaces(places ...int) []int {
	all := make([]int, len(places))
	copy(all, places)
	return all
}
