package calendar

import "arrayarchive/api"

const maxMonths = 240000 // absolute value of a number of months that AddMonths adds

// AddMonths returns the date n months later; the day becomes the last one of its month where that has fewer days.
func AddMonths(cal int, d api.Date, n int) (api.Date, api.Errno) {
	r, ok := rulesOf(cal)
	if !ok {
		return api.Date{}, api.ErrCalendar
	}
	if !r.valid(d) {
		return api.Date{}, api.ErrDate
	}
	if n < -maxMonths || n > maxMonths {
		return api.Date{}, api.ErrArg
	}
	years, month := n/12, d.Month+n%12
	if month < 1 {
		years, month = years-1, month+12
	}
	if month > 12 {
		years, month = years+1, month-12
	}
	year := d.Year + years
	if !isYear(year) {
		return api.Date{}, api.ErrDate
	}
	return api.Date{Year: year, Month: month, Day: min(d.Day, r.days(year, month))}, api.OK
}

// Map returns the same date in another calendar, and what is lost.
func Map(from, to int, d api.Date) (api.Date, int, api.Errno) {
	old, okFrom := rulesOf(from)
	other, okTo := rulesOf(to)
	if !okFrom || !okTo {
		return api.Date{}, 0, api.ErrCalendar
	}
	if !old.valid(d) {
		return api.Date{}, 0, api.ErrDate
	}
	if !other.valid(d) {
		return api.Date{}, api.LossMissing, api.OK
	}
	return d, api.LossNone, api.OK
}

// MapAll maps the dates with day numbers, and returns the day numbers in the other calendar and what is lost.
func MapAll(from, to int, numbers []int) ([]int, []int, api.Errno) {
	old, okFrom := rulesOf(from)
	other, okTo := rulesOf(to)
	if !okFrom || !okTo {
		return nil, nil, api.ErrCalendar
	}
	mapped, losses := make([]int, len(numbers)), make([]int, len(numbers))
	for i, n := range numbers {
		d, errno := old.date(n)
		if errno != api.OK {
			return nil, nil, errno
		}
		if other.valid(d) {
			mapped[i], losses[i] = other.number(d), api.LossNone
		} else {
			losses[i] = api.LossMissing
		}
	}
	return mapped, losses, api.OK
}
