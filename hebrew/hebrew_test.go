package hebrew

import (
	"testing"

	"newel/api"
	"newel/molad"
)

// The ends of all dates, by their numbers.
const (
	firstNumber = 249
	lastNumber  = 2278650
)

// monthsBy is what the months 1 to 13 have in a year of so many days, written out.
func monthsBy(length int) [13]int {
	switch length {
	case 353:
		return [13]int{30, 29, 29, 29, 30, 0, 29, 30, 29, 30, 29, 30, 29}
	case 354:
		return [13]int{30, 29, 30, 29, 30, 0, 29, 30, 29, 30, 29, 30, 29}
	case 355:
		return [13]int{30, 30, 30, 29, 30, 0, 29, 30, 29, 30, 29, 30, 29}
	case 383:
		return [13]int{30, 29, 29, 29, 30, 30, 29, 30, 29, 30, 29, 30, 29}
	case 384:
		return [13]int{30, 29, 30, 29, 30, 30, 29, 30, 29, 30, 29, 30, 29}
	case 385:
		return [13]int{30, 30, 30, 29, 30, 30, 29, 30, 29, 30, 29, 30, 29}
	}
	return [13]int{}
}

// yearsBy are years of each length: the first one that is reckoned, some of our time, and the last one.
func yearsBy() map[int][]int {
	return map[int][]int{
		353: {3767, 5777, 5781, 9999},
		354: {3763, 5778, 5786, 9998},
		355: {3764, 5783, 5785, 9996},
		383: {3762, 5784, 5790, 9994},
		384: {3779, 5782, 9964},
		385: {3765, 5776, 5779, 9997},
	}
}

// lengthOf is a year's length, of one that must be reckoned.
func lengthOf(t *testing.T, h int) int {
	t.Helper()
	length, err := molad.Len(h)
	if err != api.OK {
		t.Fatalf("molad.Len(%d): error %d", h, err)
	}
	return length
}

// newYear is a year's first day, of one that must be reckoned.
func newYear(t *testing.T, h int) int {
	t.Helper()
	first, err := molad.NewYear(h)
	if err != api.OK {
		t.Fatalf("molad.NewYear(%d): error %d", h, err)
	}
	return first
}

// edges are numbers about all that a year, a month or a day may be, and far from it.
func edges() []int {
	return []int{
		api.MinInt, api.MinInt + 1, api.MinInt / 2, -1 << 32, -5784, -13, -1, 0, 1, 2, 3, 6, 7, 12, 13, 14, 15, 28, 29, 30, 31, 32,
		3760, 3761, 3762, 3763, 5784, 5785, 9998, 9999, 10000, 10001, 1 << 32, 1<<32 + 1, 1<<32 + 5784, api.MaxInt / 2, api.MaxInt - 1, api.MaxInt,
	}
}

// notReckoned are years beyond both ends.
func notReckoned() []int {
	var years []int
	for _, h := range edges() {
		if h < 3762 || h > 9999 {
			years = append(years, h)
		}
	}
	return years
}

// noMonths are numbers of no month.
func noMonths() []int {
	var months []int
	for _, m := range edges() {
		if m < 1 || m > 13 {
			months = append(months, m)
		}
	}
	return months
}

// wantDay holds Day to a number, and Of back.
func wantDay(t *testing.T, d api.HDate, want int) {
	t.Helper()
	if n, err := Day(d); n != want || err != api.OK {
		t.Errorf("Day(%v) = %d, %d, want %d", d, n, err, want)
	}
	if got, err := Of(want); got != d || err != api.OK {
		t.Errorf("Of(%d) = %v, %d, want %v", want, got, err, d)
	}
}

// wantNoDate holds Day to its error, with the number zero.
func wantNoDate(t *testing.T, d api.HDate) {
	t.Helper()
	if n, err := Day(d); n != 0 || err != api.ErrHebrewDate {
		t.Errorf("Day(%v) = %d, %d, want ErrHebrewDate", d, n, err)
	}
}

// wantNoDay holds Of to its error, with the date zero.
func wantNoDay(t *testing.T, n int) {
	t.Helper()
	if d, err := Of(n); d != (api.HDate{}) || err != api.ErrHebrewDay {
		t.Errorf("Of(%d) = %v, %d, want ErrHebrewDay", n, d, err)
	}
}

func TestP4_1DaysInYearsOfEachLength(t *testing.T) {
	for length, years := range yearsBy() {
		for _, h := range years {
			if lengthOf(t, h) != length {
				t.Fatalf("%d has %d days, not %d", h, lengthOf(t, h), length)
			}
			for i, want := range monthsBy(length) {
				if got := Days(h, i+1); got != want {
					t.Errorf("Days(%d, %d) = %d, want %d, in a year of %d days", h, i+1, got, want, length)
				}
			}
		}
	}
}

func TestP4_1FirstAdar(t *testing.T) {
	for h, want := range map[int]int{3762: 30, 3763: 0, 3765: 30, 5782: 30, 5783: 0, 5784: 30, 5785: 0, 5786: 0, 5787: 30, 9997: 30, 9998: 0, 9999: 0} {
		if got := Days(h, 6); got != want {
			t.Errorf("Days(%d, 6) = %d, want %d", h, got, want)
		}
		if got := Days(h, 7); got != 29 {
			t.Errorf("Days(%d, 7) = %d, want 29", h, got)
		}
	}
}

func TestP4_1EveryMonthOfEveryYear(t *testing.T) {
	for h := api.FirstHebrew; h <= api.LastHebrew; h++ {
		for i, want := range monthsBy(lengthOf(t, h)) {
			if got := Days(h, i+1); got != want {
				t.Errorf("Days(%d, %d) = %d, want %d", h, i+1, got, want)
			}
		}
		if Days(h, 0) != 0 || Days(h, 14) != 0 {
			t.Errorf("Days(%d, ..): %d of the month 0, %d of 14", h, Days(h, 0), Days(h, 14))
		}
	}
}

func TestP4_1NumbersOfNoMonth(t *testing.T) {
	for _, years := range yearsBy() {
		for _, h := range years {
			for _, m := range noMonths() {
				if got := Days(h, m); got != 0 {
					t.Errorf("Days(%d, %d) = %d, want 0", h, m, got)
				}
			}
		}
	}
}

func TestP4_1YearsThatAreNotReckoned(t *testing.T) {
	for _, h := range notReckoned() {
		for m := -1; m <= 15; m++ {
			if got := Days(h, m); got != 0 {
				t.Errorf("Days(%d, %d) = %d, want 0", h, m, got)
			}
		}
		for _, m := range edges() {
			if got := Days(h, m); got != 0 {
				t.Errorf("Days(%d, %d) = %d, want 0", h, m, got)
			}
		}
	}
}

func TestP4_2Examples(t *testing.T) {
	wantDay(t, api.HDate{Year: 5784, Month: 8, Day: 15}, 738999)
	wantDay(t, api.HDate{Year: 5784, Month: 1, Day: 1}, 738779)
}

func TestP4_2DatesByTheCivilCalendar(t *testing.T) {
	for _, x := range []struct {
		d    api.HDate
		want int
	}{
		{api.HDate{Year: 5661, Month: 1, Day: 1}, 693862},  // September 24, 1900
		{api.HDate{Year: 5708, Month: 9, Day: 5}, 711261},  // May 14, 1948
		{api.HDate{Year: 5784, Month: 3, Day: 25}, 738862}, // December 8, 2023
		{api.HDate{Year: 5784, Month: 5, Day: 15}, 738910}, // January 25, 2024
		{api.HDate{Year: 5784, Month: 7, Day: 14}, 738969}, // March 24, 2024
		{api.HDate{Year: 5784, Month: 10, Day: 6}, 739049}, // June 12, 2024
		{api.HDate{Year: 5784, Month: 12, Day: 9}, 739111}, // August 13, 2024
		{api.HDate{Year: 5785, Month: 1, Day: 10}, 739171}, // October 12, 2024
		{api.HDate{Year: 5785, Month: 7, Day: 14}, 739324}, // March 14, 2025
		{api.HDate{Year: 5785, Month: 8, Day: 15}, 739354}, // April 13, 2025
		{api.HDate{Year: 5786, Month: 8, Day: 15}, 739708}, // April 2, 2026
	} {
		wantDay(t, x.d, x.want)
	}
}

func TestP4_2FirstAndLastOfAllYears(t *testing.T) {
	wantDay(t, api.HDate{Year: 3762, Month: 1, Day: 1}, firstNumber)
	wantDay(t, api.HDate{Year: 3762, Month: 1, Day: 2}, firstNumber+1)
	wantDay(t, api.HDate{Year: 3762, Month: 13, Day: 29}, 631)
	wantDay(t, api.HDate{Year: 3763, Month: 1, Day: 1}, 632)
	wantDay(t, api.HDate{Year: 9998, Month: 13, Day: 29}, 2278297)
	wantDay(t, api.HDate{Year: 9999, Month: 1, Day: 1}, 2278298)
	wantDay(t, api.HDate{Year: 9999, Month: 13, Day: 28}, lastNumber-1)
	wantDay(t, api.HDate{Year: 9999, Month: 13, Day: 29}, lastNumber)
}

func TestP4_2EndsOfMonthsAndYears(t *testing.T) {
	for length, years := range yearsBy() {
		for _, h := range years {
			number := newYear(t, h)
			for i, days := range monthsBy(length) {
				wantNoDate(t, api.HDate{Year: h, Month: i + 1, Day: -1})
				wantNoDate(t, api.HDate{Year: h, Month: i + 1, Day: 0})
				wantNoDate(t, api.HDate{Year: h, Month: i + 1, Day: days + 1})
				if days == 0 {
					continue
				}
				wantDay(t, api.HDate{Year: h, Month: i + 1, Day: 1}, number)
				wantDay(t, api.HDate{Year: h, Month: i + 1, Day: 2}, number+1)
				wantDay(t, api.HDate{Year: h, Month: i + 1, Day: days - 1}, number+days-2)
				wantDay(t, api.HDate{Year: h, Month: i + 1, Day: days}, number+days-1)
				number += days
			}
			if h < api.LastHebrew {
				wantDay(t, api.HDate{Year: h + 1, Month: 1, Day: 1}, number)
			}
		}
	}
}

func TestP4_2MonthWithoutDays(t *testing.T) {
	for _, h := range []int{3763, 3764, 3767, 5783, 5785, 5786, 9998, 9999} {
		for day := -1; day <= 31; day++ {
			wantNoDate(t, api.HDate{Year: h, Month: 6, Day: day})
		}
		last, err := Day(api.HDate{Year: h, Month: 5, Day: 30})
		if err != api.OK {
			t.Errorf("the last of Shevat of %d: error %d", h, err)
		}
		wantDay(t, api.HDate{Year: h, Month: 7, Day: 1}, last+1)
	}
}

func TestP4_2DatesThatMayNotBe(t *testing.T) {
	for _, h := range notReckoned() {
		for m := 0; m <= 14; m++ {
			for _, day := range edges() {
				wantNoDate(t, api.HDate{Year: h, Month: m, Day: day})
			}
		}
	}
	for _, h := range []int{3762, 3763, 5784, 5785, 9997, 9999} {
		for _, m := range noMonths() {
			for _, day := range edges() {
				wantNoDate(t, api.HDate{Year: h, Month: m, Day: day})
			}
		}
		for m := 1; m <= 13; m++ {
			for _, day := range edges() {
				if day < 1 || day > 30 {
					wantNoDate(t, api.HDate{Year: h, Month: m, Day: day})
				}
			}
		}
	}
	wantNoDate(t, api.HDate{})
}

func TestP4_2AnythingInEachPlace(t *testing.T) {
	for _, h := range edges() {
		for _, m := range edges() {
			for _, day := range edges() {
				d := api.HDate{Year: h, Month: m, Day: day}
				mayBe := h >= 3762 && h <= 9999 && m >= 1 && m <= 13 && day >= 1 && day <= monthsBy(lengthOf(t, h))[m-1]
				if !mayBe {
					wantNoDate(t, d)
				} else if n, err := Day(d); n < firstNumber || n > lastNumber || err != api.OK {
					t.Errorf("Day(%v) = %d, %d", d, n, err)
				}
			}
		}
	}
}

func TestP4_2NumbersThatHaveNoDate(t *testing.T) {
	for _, n := range edges() {
		if n < firstNumber {
			wantNoDay(t, n)
		}
	}
	for n := -400; n < firstNumber; n++ {
		wantNoDay(t, n)
	}
	for n := lastNumber + 1; n < lastNumber+1000; n++ {
		wantNoDay(t, n)
	}
	for _, n := range []int{
		api.MinInt + firstNumber - 1, api.MinInt + firstNumber, api.MinInt + firstNumber + 1, -738779, -lastNumber,
		api.MaxDay, api.MaxDay + 1, 1 << 32, 1<<32 + 738779, 1<<40 + 738779, api.MaxInt - lastNumber, api.MaxInt - 1, api.MaxInt,
	} {
		wantNoDay(t, n)
	}
}

func TestP4_2EveryDayBackAndForth(t *testing.T) {
	number := firstNumber
	for h := api.FirstHebrew; h <= api.LastHebrew; h++ {
		if number != newYear(t, h) {
			t.Fatalf("%d begins on %d, but %d is the next number", h, newYear(t, h), number)
		}
		for i, days := range monthsBy(lengthOf(t, h)) {
			for day := 1; day <= days; day++ {
				d := api.HDate{Year: h, Month: i + 1, Day: day}
				if n, err := Day(d); n != number || err != api.OK {
					t.Fatalf("Day(%v) = %d, %d, want %d", d, n, err, number)
				}
				if got, err := Of(number); got != d || err != api.OK {
					t.Fatalf("Of(%d) = %v, %d, want %v", number, got, err, d)
				}
				number++
			}
		}
	}
	if number != lastNumber+1 {
		t.Errorf("%d numbers have dates up to %d", number-firstNumber, number-1)
	}
}

func TestP4_3MonthsHaveTheYearsDays(t *testing.T) {
	for h := api.FirstHebrew; h <= api.LastHebrew; h++ {
		sum := 0
		for m := 1; m <= 13; m++ {
			sum += Days(h, m)
		}
		if sum != lengthOf(t, h) {
			t.Errorf("the months of %d have %d days, but the year %d", h, sum, lengthOf(t, h))
		}
	}
}

func TestP4_3FromPassoverToTheNewYear(t *testing.T) {
	for h := api.FirstHebrew; h <= api.LastHebrew; h++ {
		from, err := Day(api.HDate{Year: h, Month: 8, Day: 15})
		if err != api.OK {
			t.Fatalf("15 Nisan %d: error %d", h, err)
		}
		next := newYear(t, h) + lengthOf(t, h) // not by the year behind: of LastHebrew it isn't reckoned
		if next-from != 163 {
			t.Errorf("from 15 Nisan %d to the New Year there are %d days", h, next-from)
		}
		if h == api.LastHebrew {
			continue
		}
		if to, err := Day(api.HDate{Year: h + 1, Month: 1, Day: 1}); to != next || err != api.OK {
			t.Errorf("1 Tishri %d = %d, %d, want %d", h+1, to, err, next)
		}
	}
}
