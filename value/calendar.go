package value

import (
	"sort"
	"strconv"
	"strings"
)

const (
	monthsOfYear = 12
	daysOfYear   = 365 // without a leap day
	february     = 1   // the months of a year are counted from 0 on

	// Months are counted from January of this year on, which is before all valid days and begins, as the year 1 does,
	// 400 years of which the last one is a leap year: so all counts are positive, and leap years are every fourth one.
	firstYear = -799
	lastYear  = 4800
	epoch     = 1011356 // days from the beginning of the first year to January 1, 1970

	yearDigits = 4
	partDigits = 2 // of a month or a day
	hyphen     = "-"
	partSize   = len(hyphen) + partDigits
)

// daysBefore are the days before each month of a year without a leap day.
var daysBefore = [monthsOfYear]int64{0, 31, 59, 90, 120, 151, 181, 212, 243, 273, 304, 334}

// monthStart returns the first day of a month.
func monthStart(month int) int64 {
	years := int64(month / monthsOfYear)
	month %= monthsOfYear
	leapDays := leapYears(years)
	if month > february {
		leapDays = leapYears(years + 1)
	}
	return years*daysOfYear + leapDays + daysBefore[month] - epoch
}

// leapYears returns how many of the first years are leap years.
func leapYears(years int64) int64 { return years/4 - years/100 + years/400 }

// dateOf returns the notation of a valid day.
func dateOf(day int64) string {
	month := sort.Search((lastYear-firstYear)*monthsOfYear, func(m int) bool { return monthStart(m+1) > day })
	year := firstYear + month/monthsOfYear
	sign := ""
	if year < 0 {
		sign, year = hyphen, -year
	}
	return sign + padded(year, yearDigits) + hyphen + padded(month%monthsOfYear+1, partDigits) +
		hyphen + padded(int(day-monthStart(month))+1, partDigits)
}

// padded returns a number, which has at most n digits without leading zeros, in n digits.
func padded(number int, n int) string {
	s := strconv.Itoa(number)
	return strings.Repeat("0", n-len(s)) + s
}

// dayOf returns the day that has the notation s, unless there is none.
func dayOf(s string) int64 {
	dayAt := len(s) - partSize
	monthAt := dayAt - partSize
	if monthAt < 0 {
		return 0
	}
	// An error leaves a number that is not in s, and so not in the notation of the day.
	year, _ := strconv.Atoi(s[:monthAt])
	month, _ := strconv.Atoi(s[monthAt+len(hyphen) : dayAt])
	day, _ := strconv.Atoi(s[dayAt+len(hyphen):])
	if year < firstYear || year >= lastYear || month < 1 || month > monthsOfYear {
		return 0
	}
	return monthStart((year-firstYear)*monthsOfYear+month-1) + int64(day-1)
}
