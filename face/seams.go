package face

import "blazon/api"

// Seams returns the columns at which the strips of f begin, but for the first one. Each strip is as wide as possible,
// which gives as few strips as possible.
func Seams(f api.Face, width int) ([]int, api.Errno) {
	if !Valid(f) {
		return nil, api.ErrFace
	}
	if !between(width, 1, api.MaxFace) {
		return nil, api.ErrArg
	}
	w, _ := figureOf(f).extent()
	forbidden := cutting(f.Items, w)
	var seams []int
	for begin := 0; w-begin > width; {
		end := begin + width
		for end > begin && forbidden[end] {
			end--
		}
		if end == begin {
			return nil, api.ErrWide
		}
		seams = append(seams, end)
		begin = end
	}
	return seams, api.OK
}

// cutting reports for each column from 0 to w - 1 whether a seam at it would cut a letter of the items.
func cutting(items []api.Item, w int) []bool {
	forbidden := make([]bool, w)
	for _, it := range items {
		for k, r := range it.Text {
			if r == ' ' {
				continue
			}
			left := it.Left + letterStep*it.A*k
			for c := left + 1; c < min(left+letterWidth*it.A, w); c++ {
				forbidden[c] = true
			}
		}
	}
	return forbidden
}
