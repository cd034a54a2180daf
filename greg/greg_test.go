package greg

import (
	"math/big"
	"testing"

	"newel/api"
)

// edges are numbers that no year, month, day, weekday or k may be, and those beside the last that may.
func edges() []int {
	return []int{
		api.MinInt, api.MinInt + 1, api.MinInt / 2, -3652059, -10000, -9999, -2023, -400, -12, -7, -6, -5, -2, -1, 0,
		1, 2, 4, 5, 6, 7, 8, 12, 13, 28, 29, 30, 31, 32, 100, 400, 2000, 2023, 2024, 9998, 9999, 10000,
		3652058, 3652059, 3652060, api.MaxInt / 2, api.MaxInt - 1, api.MaxInt,
	}
}

// leapYear says a leap year in P2.1's words.
func leapYear(y int) bool {
	switch {
	case y%400 == 0:
		return true
	case y%100 == 0:
		return false
	}
	return y%4 == 0
}

// lengthOf says a month's days in P2.1's words, of years and months that may be.
func lengthOf(y, m int) int {
	switch m {
	case 4, 6, 9, 11:
		return 30
	case 2:
		if leapYear(y) {
			return 29
		}
		return 28
	}
	return 31
}

// following is the next date of one that may be.
func following(d api.Date) api.Date {
	d.Day++
	if d.Day > lengthOf(d.Year, d.Month) {
		d.Month, d.Day = d.Month+1, 1
	}
	if d.Month > 12 {
		d.Year, d.Month = d.Year+1, 1
	}
	return d
}

func date(y, m, d int) api.Date {
	return api.Date{Year: y, Month: m, Day: d}
}

func TestP2_1Leap(t *testing.T) {
	for _, y := range []int{4, 400, 1996, 2000, 2024, 2400, 9996, 0, -4, -400, -2000, -2024, 10000, api.MinInt, api.MaxInt - 3} {
		if !Leap(y) {
			t.Errorf("%d is no leap year", y)
		}
	}
	for _, y := range []int{1, 2, 3, 100, 1900, 2022, 2023, 2025, 2100, 2200, 2300, 9999, -1, -2, -100, -1900, -2023, api.MinInt + 1, api.MinInt + 2, api.MinInt + 8, api.MaxInt, api.MaxInt - 1, api.MaxInt - 7} {
		if Leap(y) {
			t.Errorf("%d is a leap year", y)
		}
	}
	for y := -10400; y <= 10400; y++ {
		if Leap(y) != leapYear(y) {
			t.Errorf("Leap(%d) = %t", y, Leap(y))
		}
	}
}

func TestP2_1DaysOfEveryMonth(t *testing.T) {
	common := [12]int{31, 28, 31, 30, 31, 30, 31, 31, 30, 31, 30, 31}
	leap := [12]int{31, 29, 31, 30, 31, 30, 31, 31, 30, 31, 30, 31}
	for y, want := range map[int][12]int{
		1: common, 100: common, 1900: common, 2023: common, 2100: common, 9999: common,
		4: leap, 400: leap, 2000: leap, 2024: leap, 2400: leap, 9996: leap,
	} {
		for m := 1; m <= 12; m++ {
			if n := Days(y, m); n != want[m-1] {
				t.Errorf("Days(%d, %d) = %d, want %d", y, m, n, want[m-1])
			}
		}
	}
	for y := 1; y <= api.MaxYear; y++ {
		for m := 1; m <= 12; m++ {
			if n := Days(y, m); n != lengthOf(y, m) {
				t.Errorf("Days(%d, %d) = %d, want %d", y, m, n, lengthOf(y, m))
			}
		}
	}
}

func TestP2_1DaysOfMonthsThatMayNotBe(t *testing.T) {
	for _, y := range edges() {
		for _, m := range edges() {
			if y >= 1 && y <= api.MaxYear && m >= 1 && m <= 12 {
				continue
			}
			if n := Days(y, m); n != 0 {
				t.Errorf("Days(%d, %d) = %d", y, m, n)
			}
		}
	}
}

func TestP2_1Weekday(t *testing.T) {
	for _, x := range []struct{ n, want int }{
		{0, 0}, {1, 1}, {6, 6}, {7, 0}, {8, 1}, {-1, 6}, {-6, 1}, {-7, 0}, {-8, 6}, {738779, 6}, {738605, 0}, {api.MaxDay, 5},
		{-1373427, 1}, {api.MaxInt, 0}, {api.MaxInt - 1, 6}, {api.MinInt, 6}, {api.MinInt + 1, 0},
	} {
		if got := Weekday(x.n); got != x.want {
			t.Errorf("Weekday(%d) = %d, want %d", x.n, got, x.want)
		}
	}
	for _, n := range edges() {
		rest := new(big.Int).Mod(big.NewInt(int64(n)), big.NewInt(7))
		if got := Weekday(n); int64(got) != rest.Int64() {
			t.Errorf("Weekday(%d) = %d, want %s", n, got, rest)
		}
	}
	for n := -1000; n <= 1000; n++ {
		if got, next := Weekday(n), Weekday(n+1); got < 0 || got > 6 || next != (got+1)%7 {
			t.Errorf("weekdays of %d and the next day: %d, %d", n, got, next)
		}
	}
}

func TestP2_2EndsAndTurns(t *testing.T) {
	for _, x := range []struct {
		d api.Date
		n int
	}{
		{date(1, 1, 1), 1}, {date(1, 1, 31), 31}, {date(1, 2, 1), 32}, {date(1, 2, 28), 59}, {date(1, 3, 1), 60}, {date(1, 12, 31), 365}, {date(2, 1, 1), 366},
		{date(4, 2, 29), 1155}, {date(4, 3, 1), 1156}, {date(4, 12, 31), 1461}, {date(5, 1, 1), 1462},
		{date(100, 12, 31), 36524}, {date(101, 1, 1), 36525}, {date(400, 12, 30), 146096}, {date(400, 12, 31), 146097}, {date(401, 1, 1), 146098},
		{date(1900, 2, 28), 693654}, {date(1900, 3, 1), 693655}, {date(1970, 1, 1), 719163}, {date(2000, 2, 29), 730179}, {date(2000, 3, 1), 730180},
		{date(2000, 12, 31), 730485}, {date(2001, 1, 1), 730486}, {date(2023, 3, 26), 738605}, {date(2023, 9, 16), 738779}, {date(2024, 2, 29), 738945},
		{date(9999, 1, 1), 3651695}, {date(9999, 12, 30), api.MaxDay - 1}, {date(9999, 12, 31), api.MaxDay},
	} {
		if n, err := Day(x.d); n != x.n || err != api.OK {
			t.Errorf("Day(%v) = %d, %d, want %d", x.d, n, err, x.n)
		}
		if d, err := Of(x.n); d != x.d || err != api.OK {
			t.Errorf("Of(%d) = %v, %d, want %v", x.n, d, err, x.d)
		}
	}
}

// checkNoDate holds that a date which may not be is refused.
func checkNoDate(t *testing.T, d api.Date) {
	t.Helper()
	if n, err := Day(d); n != 0 || err != api.ErrGregDate {
		t.Errorf("Day(%v) = %d, %d", d, n, err)
	}
}

func TestP2_2DatesThatMayNotBe(t *testing.T) {
	checkNoDate(t, api.Date{})
	checkNoDate(t, date(1900, 2, 29))
	checkNoDate(t, date(2023, 2, 29))
	checkNoDate(t, date(2024, 2, 30))
	checkNoDate(t, date(0, 12, 31))
	checkNoDate(t, date(10000, 1, 1))
	for _, y := range []int{1, 4, 1900, 2000, 2023, 2024, 9999} {
		for m := 1; m <= 12; m++ {
			for _, d := range []int{api.MinInt, -1, 0, lengthOf(y, m) + 1, lengthOf(y, m) + 2, 99, api.MaxInt} {
				checkNoDate(t, date(y, m, d))
			}
		}
	}
	for _, y := range edges() {
		for _, m := range edges() {
			for _, d := range edges() {
				if y < 1 || y > api.MaxYear || m < 1 || m > 12 || d < 1 || d > lengthOf(y, m) {
					checkNoDate(t, date(y, m, d))
				}
			}
		}
	}
}

func TestP2_2DaysThatMayNotBe(t *testing.T) {
	for _, n := range edges() {
		if n >= 1 && n <= api.MaxDay {
			continue
		}
		if d, err := Of(n); d != (api.Date{}) || err != api.ErrGregDay {
			t.Errorf("Of(%d) = %v, %d", n, d, err)
		}
	}
}

func TestP2_3Numbers(t *testing.T) {
	for _, x := range []struct {
		y, m, w, k, n int
		err           api.Errno
	}{
		{2023, 3, 0, -1, 738605, 0}, {2023, 10, 0, -1, 738822, 0}, {2023, 10, 0, 5, 738822, 0}, {2023, 3, 0, 2, 738591, 0},
		{2023, 9, 6, 1, 738765, 0}, {2023, 9, 6, 5, 738793, 0}, {2023, 9, 6, -1, 738793, 0}, {2023, 9, 0, 4, 738787, 0}, {2023, 9, 0, -1, 738787, 0},
		{2023, 9, 0, 5, 0, api.ErrGregNth}, {2023, 2, 3, 5, 0, api.ErrGregNth}, {2023, 2, 3, -1, 738573, 0}, {2024, 2, 4, 5, 738945, 0}, {2024, 2, 5, 5, 0, api.ErrGregNth},
		{1, 1, 1, 1, 1, 0}, {1, 1, 0, 1, 7, 0}, {1, 1, 3, 5, 31, 0}, {1, 1, 4, 5, 0, api.ErrGregNth}, {1, 1, 4, -1, 25, 0},
		{9999, 12, 5, 5, api.MaxDay, 0}, {9999, 12, 5, -1, api.MaxDay, 0}, {9999, 12, 6, 5, 0, api.ErrGregNth}, {9999, 12, 6, -1, api.MaxDay - 6, 0},
	} {
		if n, err := Nth(x.y, x.m, x.w, x.k); n != x.n || err != x.err {
			t.Errorf("%+v: got %d, %d", x, n, err)
		}
	}
}

// checkMonth holds Nth against a month whose days, from the number first on, are gone through one by one.
func checkMonth(t *testing.T, y, m, first int) {
	t.Helper()
	var found [7][]int
	for n := first; n < first+lengthOf(y, m); n++ {
		w := n % 7
		found[w] = append(found[w], n)
	}
	for w, days := range found {
		for k := 1; k <= 5; k++ {
			n, err := Nth(y, m, w, k)
			switch {
			case k > len(days):
				if n != 0 || err != api.ErrGregNth {
					t.Errorf("Nth(%d, %d, %d, %d) = %d, %d, but there is none", y, m, w, k, n, err)
				}
			case n != days[k-1] || err != api.OK:
				t.Errorf("Nth(%d, %d, %d, %d) = %d, %d, want %d", y, m, w, k, n, err, days[k-1])
			}
		}
		last := days[len(days)-1]
		if n, err := Nth(y, m, w, -1); n != last || err != api.OK {
			t.Errorf("Nth(%d, %d, %d, -1) = %d, %d, want %d", y, m, w, n, err, last)
		}
	}
}

func TestP2_3EveryMonth(t *testing.T) {
	first := 1
	for y := 1; y <= api.MaxYear; y++ {
		for m := 1; m <= 12; m++ {
			// Each month is held once over a span of 400 years, in which all kinds come, and at the last years.
			if y <= 400 || y >= 9990 || y >= 1890 && y <= 2030 {
				checkMonth(t, y, m, first)
			}
			first += lengthOf(y, m)
		}
	}
}

func TestP2_3WrongArgumentsInOrder(t *testing.T) {
	for _, y := range edges() {
		for _, m := range edges() {
			noMonth := y < 1 || y > api.MaxYear || m < 1 || m > 12
			for _, w := range edges() {
				for _, k := range edges() {
					n, err := Nth(y, m, w, k)
					switch {
					case noMonth:
						if n != 0 || err != api.ErrGregDate {
							t.Fatalf("Nth(%d, %d, %d, %d) = %d, %d, want ErrGregDate", y, m, w, k, n, err)
						}
					case w < 0 || w > 6 || k < -1 || k == 0 || k > 5:
						if n != 0 || err != api.ErrGregNth {
							t.Fatalf("Nth(%d, %d, %d, %d) = %d, %d, want ErrGregNth", y, m, w, k, n, err)
						}
					}
				}
			}
		}
	}
}

func TestP2_3EachWrongWeekdayAndK(t *testing.T) {
	for w := -30; w <= 30; w++ {
		for k := -30; k <= 30; k++ {
			n, err := Nth(2023, 9, w, k)
			may := w >= 0 && w <= 6 && (k >= 1 && k <= 4 || k == 5 && w >= 5 || k == -1)
			if may != (err == api.OK) || may != (n != 0) || !may && err != api.ErrGregNth {
				t.Errorf("Nth(2023, 9, %d, %d) = %d, %d", w, k, n, err)
			}
		}
	}
}

func TestP2_4BackAndForth(t *testing.T) {
	d := date(1, 1, 1)
	for n := 1; n <= api.MaxDay; n++ {
		got, err := Of(n)
		if got != d || err != api.OK {
			t.Fatalf("Of(%d) = %v, %d, want %v", n, got, err, d)
		}
		back, err := Day(d)
		if back != n || err != api.OK {
			t.Fatalf("Day(%v) = %d, %d, want %d", d, back, err, n)
		}
		d = following(d)
	}
	if d != date(10000, 1, 1) {
		t.Errorf("behind the last day comes %v", d)
	}
}

func TestP2_4FourHundredYearsLater(t *testing.T) {
	for n := 1; n <= api.MaxDay-146097; n++ {
		d, err := Of(n)
		if err != api.OK {
			t.Fatalf("Of(%d): error %d", n, err)
		}
		d.Year += 400
		later, err := Day(d)
		if later != n+146097 || err != api.OK || Weekday(later) != Weekday(n) {
			t.Fatalf("%d, and 400 years later %d, error %d, weekdays %d and %d", n, later, err, Weekday(n), Weekday(later))
		}
	}
}
