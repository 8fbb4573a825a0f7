package calendar

import (
	"sort"

	"arrayarchive/api"
)

// rules are what the calendars differ in.
type rules struct {
	months [12]int            // the days of the months of a year that is no leap year
	leaps  func(year int) int // the number of leap years from the year 0 on and before a year; minus the number of those from a year on and before 0
}

// rulesOf returns the rules of a calendar, and whether there is one.
func rulesOf(cal int) (rules, bool) {
	months := [12]int{31, 28, 31, 30, 31, 30, 31, 31, 30, 31, 30, 31}
	none := func(int) int { return 0 }
	switch cal {
	case api.CalGregorian:
		return rules{months, func(year int) int {
			return multiples(4, year) - multiples(100, year) + multiples(400, year)
		}}, true
	case api.CalJulian:
		return rules{months, func(year int) int { return multiples(4, year) }}, true
	case api.CalNoLeap:
		return rules{months, none}, true
	case api.CalAllLeap:
		return rules{months, func(year int) int { return year }}, true
	case api.Cal360:
		return rules{[12]int{30, 30, 30, 30, 30, 30, 30, 30, 30, 30, 30, 30}, none}, true
	}
	return rules{}, false
}

// multiples counts the years that are divisible by n as rules.leaps counts the leap years.
func multiples(n, year int) int {
	if year > 0 {
		return (year-1)/n + 1
	}
	return year / n
}

func isYear(year int) bool {
	return -api.MaxYear <= year && year <= api.MaxYear
}

func isMonth(month int) bool {
	return 1 <= month && month <= 12
}

func (r rules) leap(year int) bool {
	return r.leaps(year+1) > r.leaps(year)
}

// start returns the day number of 1 January of a year, which may be the year behind the last one.
func (r rules) start(year int) int {
	common := 0
	for _, days := range r.months {
		common += days
	}
	return year*common + r.leaps(year)
}

// days returns the number of days of a month.
func (r rules) days(year, month int) int {
	if month == 2 && r.leap(year) {
		return r.months[1] + 1
	}
	return r.months[month-1]
}

func (r rules) valid(d api.Date) bool {
	return isYear(d.Year) && isMonth(d.Month) && 1 <= d.Day && d.Day <= r.days(d.Year, d.Month)
}

// number returns the day number of a valid date.
func (r rules) number(d api.Date) int {
	n := r.start(d.Year) + d.Day - 1
	for month := 1; month < d.Month; month++ {
		n += r.days(d.Year, month)
	}
	return n
}

// date returns the date with a day number.
func (r rules) date(number int) (api.Date, api.Errno) {
	if number < r.start(-api.MaxYear) || number >= r.start(api.MaxYear+1) {
		return api.Date{}, api.ErrDate
	}
	later := sort.Search(2*api.MaxYear+1, func(i int) bool { return r.start(i-api.MaxYear) > number })
	d := api.Date{Year: later - 1 - api.MaxYear, Month: 1}
	rest := number - r.start(d.Year)
	for rest >= r.days(d.Year, d.Month) {
		rest -= r.days(d.Year, d.Month)
		d.Month++
	}
	d.Day = rest + 1
	return d, api.OK
}
