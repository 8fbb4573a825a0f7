package calendar_test

import (
	"strings"
	"testing"

	"arrayarchive/api"
	"arrayarchive/calendar"
)

// P2.4

func TestTexts(t *testing.T) {
	for s, want := range map[string]api.Date{
		"2001-02-03": date(2001, 2, 3), "-0044-03-15": date(-44, 3, 15), "0000-01-01": date(0, 1, 1), "-0001-12-31": date(-1, 12, 31), "9999-12-31": date(9999, 12, 31), "-9999-01-01": date(-9999, 1, 1), "0007-10-20": date(7, 10, 20),
	} {
		if d, e := calendar.Parse(api.CalJulian, s); d != want || e != api.OK {
			t.Errorf("Parse(%q): %v, error %d", s, d, e)
		}
		if got, e := calendar.Format(api.CalJulian, want); got != s || e != api.OK {
			t.Errorf("Format(%v): %q, error %d", want, got, e)
		}
	}
}

func TestTextsOfAllDates(t *testing.T) {
	for _, cal := range cals {
		for year := -api.MaxYear; year <= api.MaxYear; year++ {
			month := 1 + (year+api.MaxYear)%12
			d := date(year, month, daysIn(cal, year, month))
			s, e := calendar.Format(cal, d)
			back, f := calendar.Parse(cal, s)
			if e != api.OK || f != api.OK || back != d || len(s) != 10 && year >= 0 || len(s) != 11 && year < 0 {
				t.Fatalf("calendar %d, %v: %q, %v", cal, d, s, back)
			}
		}
	}
}

func TestParseErrors(t *testing.T) {
	for s, want := range map[string]api.Errno{
		"": api.ErrSyntax, "-": api.ErrSyntax, "2001": api.ErrSyntax, "2001-02": api.ErrSyntax, "20010203": api.ErrSyntax, "2001-1-01": api.ErrSyntax, "2001-01-1": api.ErrSyntax, "201-01-01": api.ErrSyntax, "20010-01-01": api.ErrSyntax, "02001-01-01": api.ErrSyntax, "2001-001-01": api.ErrSyntax, "2001-01-001": api.ErrSyntax,
		"+2001-01-01": api.ErrSyntax, "--2001-01-01": api.ErrSyntax, " 2001-01-01": api.ErrSyntax, "2001-01-01 ": api.ErrSyntax, "2001-01-01\n": api.ErrSyntax, "2001/01/01": api.ErrSyntax, "2001-01/01": api.ErrSyntax, "2001_01-01": api.ErrSyntax, "2001-01-01-": api.ErrSyntax, "200a-01-01": api.ErrSyntax, "2001-0a-01": api.ErrSyntax, "2001-01-:1": api.ErrSyntax, "2001--1-01": api.ErrSyntax, "2001-01-+1": api.ErrSyntax, "-201-01-01": api.ErrSyntax, "+201-01-01": api.ErrSyntax,
		"-0000-01-01": api.ErrSyntax, "-0000-13-40": api.ErrSyntax, "-0000": api.ErrSyntax, "\u0662001-01-01": api.ErrSyntax, "200\xff-01-01": api.ErrSyntax, strings.Repeat("0", 1<<20): api.ErrSyntax, strings.Repeat("-", 1<<20): api.ErrSyntax,
		"2001-02-29": api.ErrDate, "2001-02-30": api.ErrDate, "2001-04-31": api.ErrDate, "2001-13-01": api.ErrDate, "2001-00-01": api.ErrDate, "2001-01-00": api.ErrDate, "2001-01-32": api.ErrDate, "0000-00-00": api.ErrDate, "-0001-99-99": api.ErrDate, "-1900-02-29": api.ErrDate,
	} {
		if e := second(calendar.Parse(api.CalGregorian, s)); e != want {
			t.Errorf("Parse(%.40q): error %d, want %d", s, e, want)
		}
	}
	for s, e := range map[string]api.Errno{"2001-02-30": api.OK, "2001-01-31": api.ErrDate} {
		if got := second(calendar.Parse(api.Cal360, s)); got != e {
			t.Errorf("Parse(%q) in Cal360: error %d, want %d", s, got, e)
		}
	}
}

func TestFormatErrors(t *testing.T) {
	for _, cal := range cals {
		for _, d := range invalid(cal) {
			if e := second(calendar.Format(cal, d)); e != api.ErrDate {
				t.Errorf("Format(%d, %v): error %d", cal, d, e)
			}
		}
	}
}
