package calendar_test

import (
	"math"
	"slices"
	"testing"

	"arrayarchive/api"
	"arrayarchive/calendar"
)

// P2.5

func TestAddMonthsExamples(t *testing.T) {
	for _, c := range []struct {
		cal  int
		d    api.Date
		n    int
		want api.Date
	}{
		{api.CalGregorian, date(2001, 1, 31), 1, date(2001, 2, 28)}, {api.CalGregorian, date(2000, 3, 31), -1, date(2000, 2, 29)}, {api.CalGregorian, date(2000, 2, 29), 12, date(2001, 2, 28)}, {api.CalGregorian, date(2000, 2, 29), 48, date(2004, 2, 29)},
		{api.CalGregorian, date(2000, 12, 15), 1, date(2001, 1, 15)}, {api.CalGregorian, date(0, 1, 15), -1, date(-1, 12, 15)}, {api.CalGregorian, date(-1, 11, 30), 3, date(0, 2, 29)}, {api.CalGregorian, date(2001, 5, 31), 0, date(2001, 5, 31)}, {api.CalGregorian, date(2001, 5, 31), 1, date(2001, 6, 30)},
		{api.CalJulian, date(1900, 1, 31), 1, date(1900, 2, 29)}, {api.CalNoLeap, date(2000, 1, 31), 1, date(2000, 2, 28)}, {api.CalAllLeap, date(2001, 1, 30), 1, date(2001, 2, 29)}, {api.Cal360, date(2001, 1, 30), 1, date(2001, 2, 30)},
		{api.CalGregorian, date(-9999, 1, 1), 239975, date(9998, 12, 1)}, {api.CalGregorian, date(-9999, 1, 1), 239987, date(9999, 12, 1)}, {api.CalGregorian, date(9999, 12, 31), -239987, date(-9999, 1, 31)},
	} {
		if got, e := calendar.AddMonths(c.cal, c.d, c.n); got != c.want || e != api.OK {
			t.Errorf("AddMonths(%d, %v, %d): %v, error %d, want %v", c.cal, c.d, c.n, got, e, c.want)
		}
	}
}

func TestAddMonths(t *testing.T) {
	for _, cal := range cals {
		for _, start := range []api.Date{date(1, 1, 31), date(-1, 2, 28), date(-9, 12, 30), date(4, 7, 1), date(1999, 8, 29)} {
			d := date(start.Year, start.Month, min(start.Day, daysIn(cal, start.Year, start.Month)))
			year, month := d.Year, d.Month
			for n := range 800 {
				want := date(year, month, min(d.Day, daysIn(cal, year, month)))
				if got, e := calendar.AddMonths(cal, d, n); got != want || e != api.OK {
					t.Fatalf("AddMonths(%d, %v, %d): %v, error %d, want %v", cal, d, n, got, e, want)
				}
				back := date(year, month, 1)
				if got, e := calendar.AddMonths(cal, back, -n); got != date(d.Year, d.Month, 1) || e != api.OK {
					t.Fatalf("AddMonths(%d, %v, %d): %v, error %d", cal, back, -n, got, e)
				}
				if month++; month > 12 {
					year, month = year+1, 1
				}
			}
		}
	}
}

func TestAddMonthsErrors(t *testing.T) {
	tooMany := []int{240001, -240001, math.MaxInt, math.MinInt}
	for _, cal := range cals {
		for _, d := range invalid(cal) {
			for _, n := range append(tooMany, 0, 1) {
				if e := second(calendar.AddMonths(cal, d, n)); e != api.ErrDate {
					t.Errorf("AddMonths(%d, %v, %d): error %d", cal, d, n, e)
				}
			}
		}
		for _, n := range tooMany {
			if e := second(calendar.AddMonths(cal, date(2000, 1, 1), n)); e != api.ErrArg {
				t.Errorf("AddMonths(%d, %d): error %d", cal, n, e)
			}
		}
		for _, c := range []struct {
			d api.Date
			n int
		}{{date(9999, 12, 1), 1}, {date(-9999, 1, 1), -1}, {date(9999, 1, 1), 12}, {date(-9999, 12, 1), -12}, {date(-9999, 1, 1), 240000}, {date(9999, 12, 1), -240000}, {date(0, 1, 1), 240000}, {date(0, 1, 1), -240000}} {
			if e := second(calendar.AddMonths(cal, c.d, c.n)); e != api.ErrDate {
				t.Errorf("AddMonths(%d, %v, %d): error %d", cal, c.d, c.n, e)
			}
		}
	}
}

// P2.12

func TestMonthsAddUp(t *testing.T) {
	steps := []int{-25000, -1201, -13, -12, -11, -1, 0, 1, 2, 12, 25, 1200, 31000}
	for _, cal := range cals {
		for _, d := range []api.Date{date(2000, 2, 28), date(0, 1, 1), date(-1, 12, 15)} {
			for _, n := range steps {
				for _, m := range steps {
					first, e := calendar.AddMonths(cal, d, n)
					then, f := calendar.AddMonths(cal, first, m)
					both, g := calendar.AddMonths(cal, d, n+m)
					if e != api.OK || f != api.OK || g != api.OK || then != both {
						t.Fatalf("calendar %d, %v, %d and %d months: %v, %v", cal, d, n, m, then, both)
					}
				}
			}
		}
	}
}

// P2.6

// someDates calls f with the dates of some years of a calendar.
func someDates(cal int, f func(api.Date)) {
	for _, year := range []int{-api.MaxYear, -100, -4, -1, 0, 1, 1900, 2000, 2001, api.MaxYear} {
		for d := date(year, 1, 1); d.Year == year; d = next(cal, d) {
			f(d)
		}
	}
}

func TestMapExamples(t *testing.T) {
	leap, march := date(2000, 2, 29), date(2000, 3, 31)
	for _, c := range []struct {
		from, to int
		d        api.Date
		loss     int
	}{
		{api.CalGregorian, api.CalNoLeap, leap, api.LossMissing}, {api.CalGregorian, api.Cal360, march, api.LossMissing}, {api.CalGregorian, api.CalAllLeap, leap, api.LossNone}, {api.CalGregorian, api.Cal360, leap, api.LossNone}, {api.CalNoLeap, api.CalJulian, march, api.LossNone},
		{api.CalJulian, api.CalGregorian, date(1900, 2, 29), api.LossMissing}, {api.Cal360, api.CalAllLeap, date(2000, 2, 30), api.LossMissing}, {api.CalGregorian, api.CalGregorian, leap, api.LossNone},
	} {
		want := c.d
		if c.loss == api.LossMissing {
			want = api.Date{}
		}
		if got, loss, e := calendar.Map(c.from, c.to, c.d); got != want || loss != c.loss || e != api.OK {
			t.Errorf("Map(%d, %d, %v): %v, %d, error %d", c.from, c.to, c.d, got, loss, e)
		}
	}
}

func TestMap(t *testing.T) {
	for _, from := range cals {
		for _, to := range cals {
			someDates(from, func(d api.Date) {
				want, loss := d, api.LossNone
				if d.Day > daysIn(to, d.Year, d.Month) {
					want, loss = api.Date{}, api.LossMissing
				}
				if got, l, e := calendar.Map(from, to, d); got != want || l != loss || e != api.OK {
					t.Errorf("Map(%d, %d, %v): %v, %d, error %d", from, to, d, got, l, e)
				}
			})
		}
	}
}

func TestMapErrors(t *testing.T) {
	for _, from := range cals {
		for _, to := range cals {
			for _, d := range invalid(from) {
				if e := third(calendar.Map(from, to, d)); e != api.ErrDate {
					t.Errorf("Map(%d, %d, %v): error %d", from, to, d, e)
				}
			}
		}
	}
}

func TestMapAll(t *testing.T) {
	for _, from := range cals {
		for _, to := range cals {
			var numbers, want, wantLosses []int
			someDates(from, func(d api.Date) {
				n, loss := 0, api.LossMissing
				if d.Day <= daysIn(to, d.Year, d.Month) {
					n, loss = number(t, to, d), api.LossNone
				}
				numbers, want, wantLosses = append(numbers, number(t, from, d)), append(want, n), append(wantLosses, loss)
			})
			slices.Reverse(numbers)
			slices.Reverse(want)
			slices.Reverse(wantLosses)
			kept := slices.Clone(numbers)
			got, losses, e := calendar.MapAll(from, to, numbers)
			if !slices.Equal(got, want) || !slices.Equal(losses, wantLosses) || e != api.OK {
				t.Errorf("MapAll(%d, %d) is not what Map does", from, to)
			}
			if clear(got); !slices.Equal(numbers, kept) {
				t.Errorf("MapAll(%d, %d) has changed or returned its argument", from, to)
			}
		}
	}
	got, losses, e := calendar.MapAll(api.CalGregorian, api.CalNoLeap, []int{366, 59, 60, 366})
	if !slices.Equal(got, []int{365, 0, 59, 365}) || !slices.Equal(losses, []int{0, api.LossMissing, 0, 0}) || e != api.OK {
		t.Errorf("MapAll: %v, %v, error %d", got, losses, e)
	}
	for _, none := range [][]int{nil, {}} {
		if got, losses, e := calendar.MapAll(1, 2, none); len(got) != 0 || len(losses) != 0 || e != api.OK {
			t.Errorf("MapAll of nothing: %v, %v, error %d", got, losses, e)
		}
	}
}

func TestMapAllErrors(t *testing.T) {
	for _, from := range cals {
		end := number(t, from, date(api.MaxYear, 12, 30)) + 2
		for _, numbers := range [][]int{{end}, {0, 1, end}, {math.MaxInt, 0}, {0, math.MinInt}} {
			for _, to := range cals {
				if e := third(calendar.MapAll(from, to, numbers)); e != api.ErrDate {
					t.Errorf("MapAll(%d, %d, %v): error %d", from, to, numbers, e)
				}
			}
		}
	}
}

// P2.11

func TestMapThereAndBack(t *testing.T) {
	for _, from := range cals {
		for _, to := range cals {
			someDates(from, func(d api.Date) {
				there, loss, e := calendar.Map(from, to, d)
				if loss == api.LossMissing {
					return
				}
				if back, l, f := calendar.Map(to, from, there); back != d || l != api.LossNone || e != api.OK || f != api.OK {
					t.Errorf("%v from %d to %d and back is %v", d, from, to, back)
				}
			})
		}
	}
}

func TestLosses(t *testing.T) {
	for _, from := range cals {
		for _, to := range cals {
			lost := 0
			someDates(from, func(d api.Date) {
				_, loss, _ := calendar.Map(from, to, d)
				lost += loss
			})
			nothing := from == to || from == api.CalNoLeap && to != api.Cal360 || to == api.CalAllLeap && from != api.Cal360 || from == api.CalGregorian && to == api.CalJulian
			if nothing != (lost == 0) {
				t.Errorf("%d dates are lost from %d to %d", lost, from, to)
			}
		}
	}
}
