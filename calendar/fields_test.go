package calendar_test

import (
	"math"
	"math/rand/v2"
	"slices"
	"testing"

	"arrayarchive/api"
	"arrayarchive/calendar"
)

var fields = []int{api.FieldYear, api.FieldMonth, api.FieldSeason, api.FieldDay}

var noFields = []int{0, 5, -1, math.MaxInt, math.MinInt}

// P2.7

func TestFieldExamples(t *testing.T) {
	for _, c := range []struct {
		cal        int
		d          api.Date
		field      int
		value, key int
	}{
		{api.CalGregorian, date(1999, 12, 15), api.FieldSeason, 1, 8000}, {api.CalGregorian, date(2000, 1, 1), api.FieldSeason, 1, 8000}, {api.CalGregorian, date(2000, 2, 29), api.FieldSeason, 1, 8000}, {api.CalGregorian, date(2000, 3, 1), api.FieldSeason, 2, 8001}, {api.CalGregorian, date(2000, 8, 31), api.FieldSeason, 3, 8002}, {api.CalGregorian, date(2000, 11, 30), api.FieldSeason, 4, 8003},
		{api.CalGregorian, date(-1, 12, 1), api.FieldSeason, 1, 0}, {api.CalGregorian, date(-1, 11, 1), api.FieldSeason, 4, -1}, {api.CalGregorian, date(9999, 12, 31), api.FieldSeason, 1, 40000},
		{api.CalGregorian, date(1999, 12, 15), api.FieldYear, 1999, 1999}, {api.CalGregorian, date(-7, 1, 1), api.FieldYear, -7, -7}, {api.CalGregorian, date(1999, 12, 15), api.FieldMonth, 12, 12*1999 + 11}, {api.CalGregorian, date(-1, 12, 1), api.FieldMonth, 12, -1}, {api.CalGregorian, date(0, 1, 1), api.FieldMonth, 1, 0},
		{api.CalGregorian, date(2000, 3, 1), api.FieldDay, 61, 730545}, {api.CalNoLeap, date(1, 3, 1), api.FieldDay, 60, 424}, {api.Cal360, date(-1, 12, 30), api.FieldDay, 360, -1}, {api.CalAllLeap, date(0, 1, 1), api.FieldDay, 1, 0},
	} {
		n := number(t, c.cal, c.d)
		value, e := calendar.Field(c.cal, n, c.field)
		key, f := calendar.Key(c.cal, n, c.field)
		if value != c.value || key != c.key || e != api.OK || f != api.OK {
			t.Errorf("calendar %d, %v, field %d: %d (error %d), %d (error %d)", c.cal, c.d, c.field, value, e, key, f)
		}
	}
}

// valueOf returns a field and a key of a date by the words of the chapter.
func valueOf(t *testing.T, cal int, d api.Date, field int) (int, int) {
	season, year := 4, d.Year
	switch d.Month {
	case 12:
		season, year = 1, d.Year+1
	case 1, 2:
		season = 1
	case 3, 4, 5:
		season = 2
	case 6, 7, 8:
		season = 3
	}
	n := number(t, cal, d)
	switch field {
	case api.FieldYear:
		return d.Year, d.Year
	case api.FieldMonth:
		return d.Month, 12*d.Year + d.Month - 1
	case api.FieldSeason:
		return season, 4*year + season - 1
	}
	return n - number(t, cal, date(d.Year, 1, 1)) + 1, n
}

func TestFields(t *testing.T) {
	for _, cal := range cals {
		for _, field := range fields {
			someDates(cal, func(d api.Date) {
				n := number(t, cal, d)
				value, key := valueOf(t, cal, d, field)
				if got, e := calendar.Field(cal, n, field); got != value || e != api.OK {
					t.Errorf("calendar %d, %v, field %d: %d, error %d, want %d", cal, d, field, got, e, value)
				}
				if got, e := calendar.Key(cal, n, field); got != key || e != api.OK {
					t.Errorf("calendar %d, %v, key %d: %d, error %d, want %d", cal, d, field, got, e, key)
				}
			})
		}
	}
}

func TestKeysAscend(t *testing.T) {
	for _, cal := range cals {
		for _, field := range fields {
			last := math.MinInt
			for n := -1500; n < 1500; n++ {
				key, e := calendar.Key(cal, n, field)
				if e != api.OK || key < last || last != math.MinInt && key > last+1 {
					t.Fatalf("calendar %d, day %d, field %d: %d behind %d", cal, n, field, key, last)
				}
				last = key
			}
		}
	}
}

func TestFieldErrors(t *testing.T) {
	for _, cal := range cals {
		end := number(t, cal, date(api.MaxYear, 12, 30)) + 2
		for _, n := range []int{0, end, math.MaxInt, math.MinInt} {
			for _, field := range append(noFields, fields...) {
				want := api.ErrDate
				switch {
				case slices.Contains(noFields, field):
					want = api.ErrField
				case n == 0:
					want = api.OK
				}
				value, key := second(calendar.Field(cal, n, field)), second(calendar.Key(cal, n, field))
				groups, cycles := third(calendar.Groups(cal, []int{0, n}, field, false)), third(calendar.Groups(cal, []int{n, 0}, field, true))
				if value != want || key != want || groups != want || cycles != want {
					t.Errorf("calendar %d, day %d, field %d: errors %d, %d, %d, %d, want %d", cal, n, field, value, key, groups, cycles, want)
				}
			}
		}
	}
	if e := third(calendar.Groups(1, nil, 0, true)); e != api.ErrField {
		t.Errorf("Groups of nothing by no field: error %d", e)
	}
}

// P2.8

func TestGroupsExamples(t *testing.T) {
	numbers := []int{365, 31, 5, 0, 31}
	for _, c := range []struct {
		field  int
		cyclic bool
		values []int
		groups [][]int
	}{
		{api.FieldMonth, true, []int{1, 2}, [][]int{{0, 2, 3}, {1, 4}}},
		{api.FieldMonth, false, []int{0, 1, 12}, [][]int{{2, 3}, {1, 4}, {0}}},
		{api.FieldYear, true, []int{0, 1}, [][]int{{1, 2, 3, 4}, {0}}},
		{api.FieldDay, true, []int{1, 6, 32}, [][]int{{0, 3}, {2}, {1, 4}}},
		{api.FieldDay, false, []int{0, 5, 31, 365}, [][]int{{3}, {2}, {1, 4}, {0}}},
		{api.FieldSeason, false, []int{0, 4}, [][]int{{1, 2, 3, 4}, {0}}},
	} {
		values, groups, e := calendar.Groups(api.CalNoLeap, numbers, c.field, c.cyclic)
		if !slices.Equal(values, c.values) || !slices.EqualFunc(groups, c.groups, slices.Equal) || e != api.OK {
			t.Errorf("field %d, %v: %v, %v, error %d", c.field, c.cyclic, values, groups, e)
		}
	}
	for _, none := range [][]int{nil, {}} {
		if values, groups, e := calendar.Groups(1, none, api.FieldYear, false); len(values) != 0 || len(groups) != 0 || e != api.OK {
			t.Errorf("groups of nothing: %v, %v, error %d", values, groups, e)
		}
	}
}

// P2.13

func TestEveryIndexIsInOneGroup(t *testing.T) {
	r := rand.New(rand.NewPCG(3, 4))
	for _, cal := range cals {
		for _, field := range fields {
			for _, cyclic := range []bool{true, false} {
				numbers := make([]int, 500)
				for i := range numbers {
					numbers[i] = r.IntN(3000) - 1500
				}
				checkGroups(t, cal, numbers, field, cyclic)
			}
		}
	}
}

func checkGroups(t *testing.T, cal int, numbers []int, field int, cyclic bool) {
	t.Helper()
	kept := slices.Clone(numbers)
	values, groups, e := calendar.Groups(cal, numbers, field, cyclic)
	if e != api.OK || len(values) != len(groups) || !slices.Equal(numbers, kept) {
		t.Fatalf("calendar %d, field %d: %d values, %d groups, error %d", cal, field, len(values), len(groups), e)
	}
	seen := make([]int, len(numbers))
	for g, members := range groups {
		if g > 0 && values[g] <= values[g-1] || len(members) == 0 || !slices.IsSorted(members) {
			t.Errorf("calendar %d, field %d: value %d, group %v", cal, field, values[g], members)
		}
		for _, i := range members {
			seen[i]++
			value, _ := calendar.Key(cal, numbers[i], field)
			if cyclic {
				value, _ = calendar.Field(cal, numbers[i], field)
			}
			if value != values[g] {
				t.Errorf("calendar %d, field %d: day %d is in the group %d", cal, field, numbers[i], values[g])
			}
		}
		// What is appended to one group must not appear in another one.
		_ = append(members, -1)
	}
	if slices.ContainsFunc(seen, func(n int) bool { return n != 1 }) {
		t.Errorf("calendar %d, field %d: an index is not in exactly one group", cal, field)
	}
}
