package light

import (
	"slices"

	"blazon/api"
)

// The limits of tables that api does not name.
const (
	minSlopes = 2
	maxSlopes = 6
	maxSlope  = 1000000
)

// ValidTable reports whether t is a valid table.
func ValidTable(t api.Table) bool {
	if !slopesValid(t.Obs) || !slopesValid(t.Ent) || len(t.R) != len(t.Obs) {
		return false
	}
	for i, row := range t.R {
		if len(row) != len(t.Ent) {
			return false
		}
		for j, c := range row {
			if !between(c, 0, api.MaxCoef) || j > 0 && c > row[j-1] || i > 0 && c > t.R[i-1][j] {
				return false
			}
		}
	}
	return true
}

// slopesValid reports whether there are neither too few nor too many slopes, strictly ascending and in their range.
func slopesValid(slopes []int) bool {
	if !between(len(slopes), minSlopes, maxSlopes) {
		return false
	}
	before := 0
	for _, slope := range slopes {
		if slope <= before || slope > maxSlope {
			return false
		}
		before = slope
	}
	return true
}

// Coefficient returns the coefficient at an observation slope and an entrance slope.
func Coefficient(t api.Table, obs, ent int) (int, api.Errno) {
	if !ValidTable(t) {
		return 0, api.ErrTable
	}
	if obs < 0 || ent < 0 {
		return 0, api.ErrArg
	}
	return coefficient(t, obs, ent), api.OK
}

// coefficient is Coefficient for arguments that are known to be valid.
func coefficient(t api.Table, obs, ent int) int {
	i, obs, seen := locate(t.Obs, obs)
	j, ent, lit := locate(t.Ent, ent)
	if !seen || !lit {
		return 0
	}
	o1, o2 := t.Obs[i], t.Obs[i+1]
	e1, e2 := t.Ent[j], t.Ent[j+1]
	near := t.R[i][j]*(e2-ent) + t.R[i][j+1]*(ent-e1)
	far := t.R[i+1][j]*(e2-ent) + t.R[i+1][j+1]*(ent-e1)
	// divided only once: a quotient on the way would lose what it rounds off
	return (near*(o2-obs) + far*(obs-o1)) / ((o2 - o1) * (e2 - e1))
}

// locate returns the index k of consecutive slopes k and k + 1 between which a slope lies, and the slope as it counts;
// false if it is above all of them.
func locate(slopes []int, slope int) (int, int, bool) {
	slope = max(slope, slopes[0])
	for k, next := range slopes[1:] {
		if slope <= next {
			return k, slope, true
		}
	}
	return 0, 0, false
}

// Better reports whether t has the same slopes as u and nowhere a lesser coefficient.
func Better(t, u api.Table) (bool, api.Errno) {
	if !ValidTable(t) || !ValidTable(u) {
		return false, api.ErrTable
	}
	if !slices.Equal(t.Obs, u.Obs) || !slices.Equal(t.Ent, u.Ent) {
		return false, api.OK
	}
	for i, row := range t.R {
		for j, c := range row {
			if c < u.R[i][j] {
				return false, api.OK
			}
		}
	}
	return true, api.OK
}

// Dimmed returns t after so many years, each of which keeps so many thousandths.
func Dimmed(t api.Table, keep, years int) (api.Table, api.Errno) {
	if !ValidTable(t) {
		return api.Table{}, api.ErrTable
	}
	if !ageingValid(keep, years) {
		return api.Table{}, api.ErrArg
	}
	dimmed := api.Table{Obs: slices.Clone(t.Obs), Ent: slices.Clone(t.Ent)}
	for _, row := range t.R {
		aged := slices.Clone(row)
		for j, c := range aged {
			aged[j] = afterYears(c, keep, years)
		}
		dimmed.R = append(dimmed.R, aged)
	}
	return dimmed, api.OK
}
