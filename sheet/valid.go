package sheet

import (
	"cmp"
	"slices"

	"blazon/api"
)

// The limits that api does not name: of Ids, lots and uses, of the least measures of an offcut, and of grades.
const (
	maxId     = 1000000000
	maxLeast  = 1000
	maxGrade  = 3
	lastSheet = api.Brown // sheet has all colours but black, which is printed
)

// ValidRoll reports whether r is a valid roll.
func ValidRoll(r api.Roll) bool {
	if !between(r.Id, 1, maxId) || !between(r.Lot, 1, maxId) || !dayValid(r.Made) {
		return false
	}
	return sheetValid(r.Grade, r.Colour, r.Width, r.Length) && faultsValid(r.Length, r.Faults)
}

// faultsValid reports whether faults lie within a length, in their order and apart from each other.
func faultsValid(length int, faults []api.Span) bool {
	if len(faults) > api.MaxFaults {
		return false
	}
	least := 0
	for _, f := range faults {
		if f.From < least || f.To <= f.From || f.To > length {
			return false
		}
		least = f.To
	}
	return true
}

// ValidRules reports whether r are valid rules.
func ValidRules(r api.Shelf) bool {
	for _, life := range r.Life {
		if !dayValid(life) {
			return false
		}
	}
	return between(r.MinWidth, 1, maxLeast) && between(r.MinLength, 1, maxLeast)
}

// needValid reports whether n is a need that a shelf could meet.
func needValid(n api.Need) bool {
	return sheetValid(n.Grade, n.Colour, n.Width, n.Length) && between(n.Count, 1, api.MaxCount)
}

// sheetValid reports whether there can be a roll with this grade and colour and of these measures.
func sheetValid(grade, colour, width, length int) bool {
	return between(grade, 1, maxGrade) && between(colour, api.White, lastSheet) &&
		between(width, 1, api.MaxWidth) && between(length, 1, api.MaxLength)
}

func dayValid(day int) bool {
	return between(day, 0, api.MaxDay)
}

// Clear returns the least offset at which a length has no fault over the length that is needed, and whether there is
// one. The spans may be any, far outside of the length too: no sum or difference here leaves the range of an int.
func Clear(length int, faults []api.Span, need int) (int, bool) {
	if length < 0 || need < 1 {
		return 0, false
	}
	sorted := slices.Clone(faults)
	slices.SortFunc(sorted, func(a, b api.Span) int { return cmp.Compare(a.From, b.From) })
	p := 0
	for _, f := range sorted {
		if f.From >= p && f.From-p >= need {
			break
		}
		if f.From < f.To {
			p = max(p, f.To)
		}
	}
	if length-p < need {
		return 0, false
	}
	return p, true
}

func between(n, least, most int) bool {
	return least <= n && n <= most
}
