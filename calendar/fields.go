package calendar

import (
	"maps"
	"slices"

	"arrayarchive/api"
)

// Field returns a field of the date with a day number.
func Field(cal, number, field int) (int, api.Errno) {
	r, errno := rulesFor(cal, field)
	if errno != api.OK {
		return 0, errno
	}
	return r.field(number, field)
}

// Key returns the number of the period in which the date with a day number lies; it is greater for later periods.
func Key(cal, number, field int) (int, api.Errno) {
	r, errno := rulesFor(cal, field)
	if errno != api.OK {
		return 0, errno
	}
	return r.key(number, field)
}

// Groups returns the different fields (if cyclic) or keys of day numbers, and the indexes of the numbers with each of them.
func Groups(cal int, numbers []int, field int, cyclic bool) ([]int, [][]int, api.Errno) {
	r, errno := rulesFor(cal, field)
	if errno != api.OK {
		return nil, nil, errno
	}
	value := r.key
	if cyclic {
		value = r.field
	}
	members := map[int][]int{}
	for i, n := range numbers {
		v, errno := value(n, field)
		if errno != api.OK {
			return nil, nil, errno
		}
		members[v] = append(members[v], i)
	}
	values := slices.Sorted(maps.Keys(members))
	groups := make([][]int, len(values))
	for i, v := range values {
		groups[i] = members[v]
	}
	return values, groups, api.OK
}

// rulesFor returns the rules of a calendar whose field is asked for.
func rulesFor(cal, field int) (rules, api.Errno) {
	r, ok := rulesOf(cal)
	if !ok {
		return rules{}, api.ErrCalendar
	}
	switch field {
	case api.FieldYear, api.FieldMonth, api.FieldSeason, api.FieldDay:
		return r, api.OK
	}
	return rules{}, api.ErrField
}

func (r rules) field(number, field int) (int, api.Errno) {
	d, errno := r.date(number)
	if errno != api.OK {
		return 0, errno
	}
	switch field {
	case api.FieldYear:
		return d.Year, api.OK
	case api.FieldMonth:
		return d.Month, api.OK
	case api.FieldSeason:
		return d.Month%12/3 + 1, api.OK
	}
	return number - r.start(d.Year) + 1, api.OK
}

func (r rules) key(number, field int) (int, api.Errno) {
	d, errno := r.date(number)
	if errno != api.OK {
		return 0, errno
	}
	switch field {
	case api.FieldYear:
		return d.Year, api.OK
	case api.FieldMonth:
		return 12*d.Year + d.Month - 1, api.OK
	case api.FieldSeason:
		// A third of December's number is 4, so that it counts with the following year.
		return 4*d.Year + d.Month/3, api.OK
	}
	return number, api.OK
}
