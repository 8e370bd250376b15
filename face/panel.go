package face

import "blazon/api"

// The measures of a panel, in units: the distance from line to line, and what lies between the texts and each side.
const (
	lineStep    = 11
	panelMargin = 3
	maxLines    = 8
)

// panelStep is what the sides of a panel are multiples of, in dots.
const panelStep = 5

// Panel returns the face of a guide panel with these lines, the uppermost one first.
func Panel(lines []string, unit, ground, ink int) (api.Face, api.Errno) {
	if !between(len(lines), 1, maxLines) {
		return api.Face{}, api.ErrArg
	}
	longest := 0
	for _, line := range lines {
		length, err := Length(line, unit)
		if err != api.OK {
			return api.Face{}, err
		}
		longest = max(longest, length)
	}
	if !colourValid(ground) || !colourValid(ink) || ground == ink {
		return api.Face{}, api.ErrArg
	}
	needed := (lineStep*(len(lines)-1) + letterHeight + 2*panelMargin) * unit
	f := api.Face{
		Shape:  api.ShapePanel,
		Size:   roundUp(longest+2*panelMargin*unit, panelStep),
		Height: roundUp(needed, panelStep),
	}
	if f.Size > api.MaxFace || f.Height > api.MaxFace {
		return api.Face{}, api.ErrWide
	}
	f.Items = append(f.Items, api.Item{Kind: api.ItemField, Colour: ground}, api.Item{Kind: api.ItemRim, Colour: ink, A: unit})
	top := f.Height - panelMargin*unit - (f.Height-needed)/2
	for k, line := range lines {
		f.Items = append(f.Items, lineItem(line, unit, ink, f.Size, top-k*lineStep*unit))
	}
	return f, api.OK
}

// lineItem returns the text of a line, in the middle of a panel of this size and with its upper edge at top.
func lineItem(line string, unit, ink, size, top int) api.Item {
	length, _ := Length(line, unit)
	return api.Item{
		Kind:   api.ItemText,
		Colour: ink,
		Left:   (size - length) / 2,
		Low:    top - letterHeight*unit,
		A:      unit,
		Text:   line,
	}
}
