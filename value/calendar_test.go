package value

import (
	"testing"

	"fenland/api"
)

// P5.5: every day has the date after that of the day before it.
func TestCalendar(t *testing.T) {
	year, month, day := -768, 2, 4
	for n := int64(-1000000); n <= 1000000; n++ {
		want := wantDate(year, month, day)
		if got := Show(num(n), api.Day); got != want {
			t.Fatalf("the day %d is %s, not %s", n, got, want)
		}
		if n == 0 && want != "1970-01-01" {
			t.Fatalf("the day 0 is %s", want)
		}
		day++
		if day > lengthOfMonth(year, month) {
			month, day = month+1, 1
		}
		if month > 12 {
			year, month = year+1, 1
		}
	}
	if wantDate(year, month, day) != "4707-11-30" {
		t.Error("the last day is wrong")
	}
}

// P5.1, V6, and P5.5: all strings with the form of a date, from the year before the first one to the year after the
// last one, of some years: a date that exists is the day after the one before it, and others have no day.
func TestDates(t *testing.T) {
	years := []int{-801, -800, -799, -798, -769, -768, -767, -401, -400, -101, -100, -5, -4, -3, -1, 0, 1, 3, 4, 99,
		100, 101, 399, 400, 401, 999, 1000, 1582, 1899, 1900, 1970, 2000, 2004, 2100, 4706, 4707, 4708, 4799, 4800, 4801,
		9999, 10000}
	for _, year := range years {
		last, found := int64(0), false
		for month := range 101 {
			for day := range 101 {
				s := wantDate(year, month, day)
				want, wantErr := wantParse(s, api.Day)
				v, err := Parse(s, api.Day)
				if v != want || err != wantErr {
					t.Errorf("Parse(%s) = %+v, %v", s, v, err)
				}
				if err != api.OK {
					continue
				}
				if found && v.N != last+1 {
					t.Errorf("%s is the day %d after %d", s, v.N, last)
				}
				last, found = v.N, true
			}
		}
	}
}

// P5.3: the days in steps that have no common factor with the lengths of years.
func TestParseInvertsShowForDays(t *testing.T) {
	for n := int64(-1000000); n <= 1000000; n += 11 {
		if v, err := Parse(Show(num(n), api.Day), api.Day); v != num(n) || err != api.OK {
			t.Fatalf("Parse(%s) = %+v, %v", Show(num(n), api.Day), v, err)
		}
	}
}
