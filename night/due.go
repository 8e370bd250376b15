package night

import (
	"blazon/api"
	"blazon/light"
)

// DueJob returns the job for a face that is replaced before it falls due: at the latest on the day before, but not before the
// last measure, and at most `lead` days earlier. It reports whether the face ever falls due.
func DueJob(number, roadNumber, chain, crew int, a api.Ageing, side int, m []api.Measure, least, lead int) (api.Job, bool, api.Errno) {
	if !within(1, maxNumber, number) || !placeValid(roadNumber, chain, crew) || !within(0, api.MaxDay, lead) {
		return api.Job{}, false, api.ErrArg
	}
	day, ok, err := light.Due(a, side, m, least)
	if err != api.OK || !ok {
		return api.Job{}, false, err
	}
	last := max(day-1, m[len(m)-1].Day)
	job := api.Job{Number: number, Road: roadNumber, Chain: chain, First: max(last-lead, 0), Last: last, Crew: crew, Dry: true}
	return job, true, api.OK
}

// Weekday returns the day of the week of a day.
func Weekday(day int) (int, api.Errno) {
	if !within(0, api.MaxDay, day) {
		return 0, api.ErrArg
	}
	return day % 7, api.OK
}
