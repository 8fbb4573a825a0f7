package calendar_test

import (
	"math"
	"testing"
	"time"

	"arrayarchive/api"
	"arrayarchive/calendar"
)

var cals = []int{api.CalGregorian, api.CalJulian, api.CalNoLeap, api.CalAllLeap, api.Cal360}

var noCals = []int{0, 6, -1, 100, math.MaxInt, math.MinInt}

var noYears = []int{-10000, 10000, math.MaxInt, math.MinInt}

var noMonths = []int{0, 13, -1, -11, math.MaxInt, math.MinInt}

// divisible reports whether n divides a year.
func divisible(year, n int) bool {
	return year%n == 0
}

// isLeap and daysIn are the rules of the chapter once more, for comparison with the results of the package.
func isLeap(cal, year int) bool {
	switch cal {
	case api.CalGregorian:
		return divisible(year, 400) || divisible(year, 4) && !divisible(year, 100)
	case api.CalJulian:
		return divisible(year, 4)
	}
	return cal == api.CalAllLeap
}

func daysIn(cal, year, month int) int {
	switch {
	case cal == api.Cal360:
		return 30
	case month == 2 && isLeap(cal, year):
		return 29
	case month == 2:
		return 28
	case month == 4 || month == 6 || month == 9 || month == 11:
		return 30
	}
	return 31
}

// next returns the date behind another one.
func next(cal int, d api.Date) api.Date {
	switch {
	case d.Day < daysIn(cal, d.Year, d.Month):
		return date(d.Year, d.Month, d.Day+1)
	case d.Month < 12:
		return date(d.Year, d.Month+1, 1)
	}
	return date(d.Year+1, 1, 1)
}

func date(year, month, day int) api.Date {
	return api.Date{Year: year, Month: month, Day: day}
}

// number returns the day number of a date that is valid.
func number(t *testing.T, cal int, d api.Date) int {
	t.Helper()
	n, e := calendar.Number(cal, d)
	if e != api.OK {
		t.Fatalf("Number(%d, %v): error %d", cal, d, e)
	}
	return n
}

// invalid are dates that are not valid in a calendar.
func invalid(cal int) []api.Date {
	l := []api.Date{{}, date(2001, 2, 31), date(2001, 1, 32), date(2001, 1, 0), date(2001, 1, -1), date(2001, 1, math.MaxInt), date(2001, 1, math.MinInt), date(2001, 12, 32)}
	for _, year := range noYears {
		l = append(l, date(year, 1, 1))
	}
	for _, month := range noMonths {
		l = append(l, date(2001, month, 1))
	}
	for month := 1; month <= 12; month++ {
		l = append(l, date(1900, month, daysIn(cal, 1900, month)+1), date(-2000, month, daysIn(cal, -2000, month)+1))
	}
	return l
}

// P2.1

func TestErrCalendarComesFirst(t *testing.T) {
	bad := date(10000, 13, 40)
	for _, cal := range noCals {
		for name, errno := range map[string]api.Errno{
			"Leap":      second(calendar.Leap(cal, 10000)),
			"Days":      second(calendar.Days(cal, 10000, 13)),
			"Length":    second(calendar.Length(cal, 10000)),
			"Number":    second(calendar.Number(cal, bad)),
			"DateOf":    second(calendar.DateOf(cal, math.MaxInt)),
			"Parse":     second(calendar.Parse(cal, "x")),
			"Format":    second(calendar.Format(cal, bad)),
			"AddMonths": second(calendar.AddMonths(cal, bad, math.MaxInt)),
			"Field":     second(calendar.Field(cal, math.MaxInt, 9)),
			"Key":       second(calendar.Key(cal, math.MaxInt, 9)),
			"Map from":  third(calendar.Map(cal, 1, bad)),
			"Map to":    third(calendar.Map(1, cal, bad)),
			"MapAll":    third(calendar.MapAll(cal, 1, []int{math.MaxInt})),
			"MapAll to": third(calendar.MapAll(1, cal, []int{math.MaxInt})),
			"to alone":  third(calendar.MapAll(1, cal, nil)),
			"Groups":    third(calendar.Groups(cal, []int{math.MaxInt}, 9, true)),
			"no groups": third(calendar.Groups(cal, nil, 9, false)),
		} {
			if errno != api.ErrCalendar {
				t.Errorf("%s in the calendar %d: error %d", name, cal, errno)
			}
		}
	}
}

// second and third return the errors of calls that must have no other results.
func second[T comparable](x T, e api.Errno) api.Errno {
	var zero T
	if e != api.OK && x != zero {
		return -1
	}
	return e
}

func third[S, T any](x S, y T, e api.Errno) api.Errno {
	if e != api.OK && !(isZero(x) && isZero(y)) {
		return -1
	}
	return e
}

func isZero(x any) bool {
	switch v := x.(type) {
	case int:
		return v == 0
	case api.Date:
		return v == api.Date{}
	case []int:
		return len(v) == 0
	case [][]int:
		return len(v) == 0
	}
	return false
}

// P2.2

func TestNames(t *testing.T) {
	for i, name := range []string{"gregorian", "julian", "noleap", "allleap", "360day"} {
		if got := calendar.Name(cals[i]); got != name {
			t.Errorf("Name(%d): %q", cals[i], got)
		}
		if cal, ok := calendar.Find(name); cal != cals[i] || !ok {
			t.Errorf("Find(%q): %d, %v", name, cal, ok)
		}
	}
	for _, cal := range noCals {
		if got := calendar.Name(cal); got != "" {
			t.Errorf("Name(%d): %q", cal, got)
		}
	}
	for _, name := range []string{"", "Gregorian", "JULIAN", "gregorian ", " julian", "noleap\x00", "360", "360_day", "365day", "1"} {
		if cal, ok := calendar.Find(name); cal != 0 || ok {
			t.Errorf("Find(%q): %d, %v", name, cal, ok)
		}
	}
}

func TestYears(t *testing.T) {
	for _, cal := range cals {
		for year := -api.MaxYear; year <= api.MaxYear; year++ {
			if got, e := calendar.Leap(cal, year); got != isLeap(cal, year) || e != api.OK {
				t.Fatalf("Leap(%d, %d): %v, error %d", cal, year, got, e)
			}
			sum := 0
			for month := 1; month <= 12; month++ {
				want := daysIn(cal, year, month)
				if got, e := calendar.Days(cal, year, month); got != want || e != api.OK {
					t.Fatalf("Days(%d, %d, %d): %d, error %d", cal, year, month, got, e)
				}
				sum += want
			}
			if got, e := calendar.Length(cal, year); got != sum || e != api.OK {
				t.Fatalf("Length(%d, %d): %d, error %d", cal, year, got, e)
			}
		}
	}
}

func TestLeapExamples(t *testing.T) {
	for _, c := range []struct {
		cal, year int
		want      bool
	}{
		{api.CalGregorian, 1900, false}, {api.CalJulian, 1900, true}, {api.CalGregorian, 0, true}, {api.CalGregorian, -100, false}, {api.CalGregorian, -400, true}, {api.CalGregorian, 2000, true}, {api.CalGregorian, -1, false},
		{api.CalJulian, -4, true}, {api.CalJulian, -1, false}, {api.CalNoLeap, 2000, false}, {api.CalAllLeap, 2001, true}, {api.CalAllLeap, -1, true}, {api.Cal360, 2000, false},
	} {
		if got, e := calendar.Leap(c.cal, c.year); got != c.want || e != api.OK {
			t.Errorf("Leap(%d, %d): %v, error %d", c.cal, c.year, got, e)
		}
	}
}

func TestYearErrors(t *testing.T) {
	for _, cal := range cals {
		for _, year := range noYears {
			if leap, days, length := second(calendar.Leap(cal, year)), second(calendar.Days(cal, year, 1)), second(calendar.Length(cal, year)); leap != api.ErrDate || days != api.ErrDate || length != api.ErrDate {
				t.Errorf("calendar %d, year %d: errors %d, %d, %d", cal, year, leap, days, length)
			}
		}
		for _, month := range noMonths {
			if e := second(calendar.Days(cal, 2000, month)); e != api.ErrDate {
				t.Errorf("Days(%d, 2000, %d): error %d", cal, month, e)
			}
		}
	}
}

func TestValid(t *testing.T) {
	for _, cal := range cals {
		for _, year := range []int{-api.MaxYear, -2000, -1, 0, 1, 1900, 2000, 2001, api.MaxYear} {
			for month := 1; month <= 12; month++ {
				for day := 1; day <= 32; day++ {
					if got := calendar.Valid(cal, date(year, month, day)); got != (day <= daysIn(cal, year, month)) {
						t.Errorf("Valid(%d, %v): %v", cal, date(year, month, day), got)
					}
				}
			}
		}
		for _, d := range invalid(cal) {
			if calendar.Valid(cal, d) {
				t.Errorf("Valid(%d, %v) is true", cal, d)
			}
		}
	}
	for _, cal := range noCals {
		if calendar.Valid(cal, date(2000, 1, 1)) {
			t.Errorf("Valid(%d) is true", cal)
		}
	}
}

// P2.3

func TestNumberExamples(t *testing.T) {
	for _, c := range []struct {
		cal  int
		d    api.Date
		want int
	}{
		{api.CalGregorian, date(1, 1, 1), 366}, {api.CalNoLeap, date(-1, 12, 31), -1}, {api.Cal360, date(0, 12, 30), 359}, {api.CalGregorian, date(1970, 1, 1), 719528}, {api.CalGregorian, date(2000, 2, 29), 730544},
		{api.CalJulian, date(-4, 1, 1), -1461}, {api.CalJulian, date(-3, 1, 1), -1095}, {api.CalAllLeap, date(-1, 1, 1), -366}, {api.Cal360, date(-1, 2, 30), -301}, {api.CalNoLeap, date(1, 3, 1), 424},
	} {
		if got := number(t, c.cal, c.d); got != c.want {
			t.Errorf("Number(%d, %v): %d, want %d", c.cal, c.d, got, c.want)
		}
		if d, e := calendar.DateOf(c.cal, c.want); d != c.d || e != api.OK {
			t.Errorf("DateOf(%d, %d): %v, error %d", c.cal, c.want, d, e)
		}
	}
	for _, cal := range cals {
		if got := number(t, cal, date(0, 1, 1)); got != 0 {
			t.Errorf("calendar %d: day 0 is %d", cal, got)
		}
	}
}

// The package time counts days in the Gregorian calendar, with a year 0, too.
func TestNumberLikeTime(t *testing.T) {
	day := time.Date(-api.MaxYear, 1, 1, 0, 0, 0, 0, time.UTC)
	first := number(t, api.CalGregorian, date(-api.MaxYear, 1, 1))
	for n := first; day.Year() <= api.MaxYear; n, day = n+7, day.AddDate(0, 0, 7) {
		want := date(day.Year(), int(day.Month()), day.Day())
		if d, e := calendar.DateOf(api.CalGregorian, n); d != want || e != api.OK {
			t.Fatalf("DateOf(%d): %v, error %d, want %v", n, d, e, want)
		}
		if got := number(t, api.CalGregorian, want); got != n {
			t.Fatalf("Number(%v): %d, want %d", want, got, n)
		}
	}
}

func TestNumberErrors(t *testing.T) {
	for _, cal := range cals {
		for _, d := range invalid(cal) {
			if e := second(calendar.Number(cal, d)); e != api.ErrDate {
				t.Errorf("Number(%d, %v): error %d", cal, d, e)
			}
		}
		first, last := number(t, cal, date(-api.MaxYear, 1, 1)), number(t, cal, date(api.MaxYear, 12, daysIn(cal, api.MaxYear, 12)))
		for _, n := range []int{first - 1, last + 1, first - 1000, last + 1000, math.MinInt, math.MaxInt, 1 << 32, -1 << 32} {
			if e := second(calendar.DateOf(cal, n)); e != api.ErrDate {
				t.Errorf("DateOf(%d, %d): error %d", cal, n, e)
			}
		}
	}
}

// P2.9

func TestCounting(t *testing.T) {
	for _, cal := range cals {
		for _, years := range [][2]int{{-api.MaxYear, -9990}, {-810, 410}, {1890, 2010}, {9990, api.MaxYear}} {
			d := date(years[0], 1, 1)
			for n := number(t, cal, d); d.Year <= years[1]; n, d = n+1, next(cal, d) {
				if got := number(t, cal, d); got != n {
					t.Fatalf("Number(%d, %v): %d, want %d", cal, d, got, n)
				}
				if got, e := calendar.DateOf(cal, n); got != d || e != api.OK {
					t.Fatalf("DateOf(%d, %d): %v, error %d, want %v", cal, n, got, e, d)
				}
			}
		}
	}
}

func TestYearsFollowEachOther(t *testing.T) {
	for _, cal := range cals {
		for year := -api.MaxYear; year < api.MaxYear; year++ {
			length, e := calendar.Length(cal, year)
			if got := number(t, cal, date(year+1, 1, 1)) - number(t, cal, date(year, 1, 1)); got != length || e != api.OK {
				t.Fatalf("calendar %d: the year %d has %d days, Length is %d", cal, year, got, length)
			}
		}
	}
}

// P2.10

func TestCycles(t *testing.T) {
	for _, c := range []struct{ cal, years, days int }{{api.CalGregorian, 400, 146097}, {api.CalJulian, 4, 1461}, {api.CalNoLeap, 1, 365}, {api.CalAllLeap, 1, 366}, {api.Cal360, 1, 360}} {
		for year := -api.MaxYear; year+c.years <= api.MaxYear; year++ {
			if got := number(t, c.cal, date(year+c.years, 1, 1)) - number(t, c.cal, date(year, 1, 1)); got != c.days {
				t.Fatalf("calendar %d: %d days from the year %d on", c.cal, got, year)
			}
		}
	}
}
