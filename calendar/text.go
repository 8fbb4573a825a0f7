package calendar

import (
	"strconv"
	"strings"

	"arrayarchive/api"
)

// Parse returns the date of a text.
func Parse(cal int, s string) (api.Date, api.Errno) {
	r, ok := rulesOf(cal)
	if !ok {
		return api.Date{}, api.ErrCalendar
	}
	d, ok := read(s)
	if !ok {
		return api.Date{}, api.ErrSyntax
	}
	if !r.valid(d) {
		return api.Date{}, api.ErrDate
	}
	return d, api.OK
}

// read reads a text of the form of a date, which need not be valid in any calendar.
func read(s string) (api.Date, bool) {
	s, negative := strings.CutPrefix(s, "-")
	if len(s) != len("0000-00-00") || s[4] != '-' || s[7] != '-' {
		return api.Date{}, false
	}
	year, isYear := digits(s[:4])
	month, isMonth := digits(s[5:7])
	day, isDay := digits(s[8:])
	if !isYear || !isMonth || !isDay || negative && year == 0 {
		return api.Date{}, false
	}
	if negative {
		year = -year
	}
	return api.Date{Year: year, Month: month, Day: day}, true
}

// digits reads a few digits; there is no sign.
func digits(s string) (int, bool) {
	n := 0
	for i := range len(s) {
		if s[i] < '0' || s[i] > '9' {
			return 0, false
		}
		n = n*10 + int(s[i]-'0')
	}
	return n, true
}

// Format returns the text of a date.
func Format(cal int, d api.Date) (string, api.Errno) {
	r, ok := rulesOf(cal)
	if !ok {
		return "", api.ErrCalendar
	}
	if !r.valid(d) {
		return "", api.ErrDate
	}
	sign, year := "", d.Year
	if year < 0 {
		sign, year = "-", -year
	}
	return sign + padded(year, 4) + "-" + padded(d.Month, 2) + "-" + padded(d.Day, 2), api.OK
}

// padded returns the digits of a number, which has at most so many of them, with zeros before them.
func padded(n, width int) string {
	s := strconv.Itoa(n)
	return strings.Repeat("0", width-len(s)) + s
}
