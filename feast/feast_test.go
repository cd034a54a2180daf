package feast

import (
	"runtime"
	"slices"
	"sync"
	"testing"

	"newel/api"
	"newel/greg"
	"newel/molad"
)

// The ends of all days that have a Hebrew date.
const (
	firstNumber = 249
	lastNumber  = 2278650
)

// civil is a day by the civil calendar.
type civil struct{ year, month, day int }

// number is a civil day's number.
func (c civil) number(t *testing.T) int {
	t.Helper()
	n, err := greg.Day(api.Date{Year: c.year, Month: c.month, Day: c.day})
	if err != api.OK {
		t.Fatalf("greg.Day(%v): error %d", c, err)
	}
	return n
}

// firstDays are the first days of a year's feasts, by the civil calendar as almanacs have them.
type firstDays struct {
	year, length                                        int
	newYear, fast, booths, eighth, passover, sea, weeks civil
}

// almanac has a year of each of the six lengths.
func almanac() []firstDays {
	return []firstDays{
		{5781, 353, civil{2020, 9, 19}, civil{2020, 9, 28}, civil{2020, 10, 3}, civil{2020, 10, 10}, civil{2021, 3, 28}, civil{2021, 4, 3}, civil{2021, 5, 17}},
		{5786, 354, civil{2025, 9, 23}, civil{2025, 10, 2}, civil{2025, 10, 7}, civil{2025, 10, 14}, civil{2026, 4, 2}, civil{2026, 4, 8}, civil{2026, 5, 22}},
		{5785, 355, civil{2024, 10, 3}, civil{2024, 10, 12}, civil{2024, 10, 17}, civil{2024, 10, 24}, civil{2025, 4, 13}, civil{2025, 4, 19}, civil{2025, 6, 2}},
		{5784, 383, civil{2023, 9, 16}, civil{2023, 9, 25}, civil{2023, 9, 30}, civil{2023, 10, 7}, civil{2024, 4, 23}, civil{2024, 4, 29}, civil{2024, 6, 12}},
		{5782, 384, civil{2021, 9, 7}, civil{2021, 9, 16}, civil{2021, 9, 21}, civil{2021, 9, 28}, civil{2022, 4, 16}, civil{2022, 4, 22}, civil{2022, 6, 5}},
		{5779, 385, civil{2018, 9, 10}, civil{2018, 9, 19}, civil{2018, 9, 24}, civil{2018, 10, 1}, civil{2019, 4, 20}, civil{2019, 4, 26}, civil{2019, 6, 9}},
	}
}

// list is the whole list that a year of the almanac must have.
func (f firstDays) list(t *testing.T, abroad bool) []api.Feast {
	t.Helper()
	var list []api.Feast
	for i, c := range []civil{f.newYear, f.fast, f.booths, f.eighth, f.passover, f.sea, f.weeks} {
		kind, n := i+1, c.number(t)
		list = append(list, api.Feast{Kind: kind, Day: n})
		if kind == 1 || abroad && kind != 2 {
			list = append(list, api.Feast{Kind: kind, Day: n + 1})
		}
	}
	return list
}

// farDays are numbers of no Hebrew date, far from all; of each seven that touch one would be a Saturday.
func farDays() []int {
	days := []int{0, 1, 6, -1, -1 << 32, 1 << 32, 1<<32 + 738779, api.MinInt / 2, api.MaxInt / 2, 2278651 + 365, 3652053, 3652058, 3652059, 3652060}
	for i := range 8 {
		days = append(days, api.MinInt+i, api.MaxInt-i, -i)
	}
	return days
}

// notReckoned are years beyond both ends.
func notReckoned() []int {
	return []int{api.MinInt, api.MinInt + 1, api.MinInt / 2, -1 << 32, -5784, -1, 0, 1, 2023, 3760, 3761, 10000, 10001, 15784, 1 << 32, 1<<32 + 5784, api.MaxInt / 2, api.MaxInt - 1, api.MaxInt}
}

// wantDay holds Kind and Rest to a day.
func wantDay(t *testing.T, n int, abroad bool, kind int, rest bool) {
	t.Helper()
	if got := Kind(n, abroad); got != kind {
		t.Errorf("Kind(%d, %v) = %d, want %d", n, abroad, got, kind)
	}
	if got := Rest(n, abroad); got != rest {
		t.Errorf("Rest(%d, %v) = %v, want %v", n, abroad, got, rest)
	}
}

// wantRun holds Run to a row, asked at each of its days.
func wantRun(t *testing.T, first, last int, abroad bool) {
	t.Helper()
	for n := first; n <= last; n++ {
		if a, b, err := Run(n, abroad); a != first || b != last || err != api.OK {
			t.Errorf("Run(%d, %v) = %d, %d, %d, want %d, %d", n, abroad, a, b, err, first, last)
		}
	}
	wantNoRun(t, first-1, abroad)
	wantNoRun(t, last+1, abroad)
}

// wantNoRun holds Run to its error, with noughts.
func wantNoRun(t *testing.T, n int, abroad bool) {
	t.Helper()
	if a, b, err := Run(n, abroad); a != 0 || b != 0 || err != api.ErrFeastRest {
		t.Errorf("Run(%d, %v) = %d, %d, %d, want ErrFeastRest", n, abroad, a, b, err)
	}
}

// whereabouts are both places: here, and abroad.
func whereabouts() []bool { return []bool{false, true} }

func TestAlmanacHasEachLength(t *testing.T) {
	for _, f := range almanac() {
		first, _ := molad.NewYear(f.year)
		length, _ := molad.Len(f.year)
		if first != f.newYear.number(t) || length != f.length {
			t.Errorf("%d begins at %d and has %d days", f.year, first, length)
		}
	}
}

func TestP5_1KindAtFeastsAndAboutThem(t *testing.T) {
	for _, f := range almanac() {
		for _, abroad := range whereabouts() {
			kinds := map[int]int{}
			for _, x := range f.list(t, abroad) {
				kinds[x.Day] = x.Kind
			}
			for n := range kinds {
				for near := n - 3; near <= n+3; near++ {
					wantDay(t, near, abroad, kinds[near], kinds[near] != 0 || near%7 == 6)
				}
			}
		}
	}
}

func TestP5_1SecondDaysAreFeastsAbroadAlone(t *testing.T) {
	for _, f := range almanac() {
		for kind, c := range map[int]civil{3: f.booths, 4: f.eighth, 5: f.passover, 6: f.sea, 7: f.weeks} {
			n := c.number(t) + 1
			wantDay(t, n, false, api.FeastNone, n%7 == 6)
			wantDay(t, n, true, kind, true)
		}
		second, fast := f.newYear.number(t)+1, f.fast.number(t)+1
		wantDay(t, second, false, api.FeastYear, true)
		wantDay(t, second, true, api.FeastYear, true)
		wantDay(t, fast, false, api.FeastNone, fast%7 == 6)
		wantDay(t, fast, true, api.FeastNone, fast%7 == 6)
	}
}

func TestP5_1OrdinaryWeek(t *testing.T) {
	for _, abroad := range whereabouts() {
		sunday := civil{2024, 1, 7}.number(t)
		for i := range 6 {
			wantDay(t, sunday+i, abroad, api.FeastNone, false)
		}
		wantDay(t, sunday+6, abroad, api.FeastNone, true)
		wantDay(t, sunday-1, abroad, api.FeastNone, true)
		wantDay(t, civil{2023, 9, 23}.number(t), abroad, api.FeastNone, true) // the Saturday between New Year and the fast
	}
}

func TestP5_1FeastsThatAreSaturdays(t *testing.T) {
	for _, abroad := range whereabouts() {
		wantDay(t, civil{2023, 9, 16}.number(t), abroad, api.FeastYear, true)
		wantDay(t, civil{2024, 10, 12}.number(t), abroad, api.FeastFast, true)
		wantDay(t, civil{2023, 9, 30}.number(t), abroad, api.FeastBooths, true)
		wantDay(t, civil{2023, 10, 7}.number(t), abroad, api.FeastEighth, true)
		wantDay(t, civil{2022, 4, 16}.number(t), abroad, api.FeastPassover, true)
		wantDay(t, civil{2025, 4, 19}.number(t), abroad, api.FeastSea, true)
	}
}

func TestP5_1EndsOfHebrewDates(t *testing.T) {
	for _, abroad := range whereabouts() {
		wantDay(t, firstNumber, abroad, api.FeastYear, true)
		wantDay(t, firstNumber+1, abroad, api.FeastYear, true)
		wantDay(t, firstNumber+2, abroad, api.FeastNone, true) // a Saturday
		wantDay(t, firstNumber+3, abroad, api.FeastNone, false)
		wantDay(t, lastNumber, abroad, api.FeastNone, false)
		wantDay(t, lastNumber-3, abroad, api.FeastNone, false)
		wantDay(t, lastNumber-4, abroad, api.FeastNone, true) // the last Saturday
		for i := 1; i <= 400; i++ {
			wantDay(t, firstNumber-i, abroad, api.FeastNone, false)
			wantDay(t, lastNumber+i, abroad, api.FeastNone, false)
		}
		for _, n := range farDays() {
			wantDay(t, n, abroad, api.FeastNone, false)
		}
	}
	if greg.Weekday(firstNumber-5) != 6 || greg.Weekday(lastNumber+3) != 6 {
		t.Error("no Saturday was asked beyond the ends")
	}
}

func TestP5_2ListsOfEachLength(t *testing.T) {
	for _, f := range almanac() {
		for _, abroad := range whereabouts() {
			want := f.list(t, abroad)
			if got, err := List(f.year, abroad); err != api.OK || !slices.Equal(got, want) {
				t.Errorf("List(%d, %v) = %v, %d, want %v", f.year, abroad, got, err, want)
			}
		}
	}
}

// kindsOf are the kinds of a year's list, one for each of its days.
func kindsOf(abroad bool) []int {
	if abroad {
		return []int{1, 1, 2, 3, 3, 4, 4, 5, 5, 6, 6, 7, 7}
	}
	return []int{1, 1, 2, 3, 4, 5, 6, 7}
}

func TestP5_2FirstAndLastYear(t *testing.T) {
	for _, x := range []struct {
		year   int
		abroad bool
		days   []int
	}{
		{3762, false, []int{249, 250, 258, 263, 270, 469, 475, 519}},
		{3762, true, []int{249, 250, 258, 263, 264, 270, 271, 469, 470, 475, 476, 519, 520}},
		{9999, false, []int{2278298, 2278299, 2278307, 2278312, 2278319, 2278488, 2278494, 2278538}},
		{9999, true, []int{2278298, 2278299, 2278307, 2278312, 2278313, 2278319, 2278320, 2278488, 2278489, 2278494, 2278495, 2278538, 2278539}},
	} {
		var want []api.Feast
		for i, kind := range kindsOf(x.abroad) {
			want = append(want, api.Feast{Kind: kind, Day: x.days[i]})
		}
		if got, err := List(x.year, x.abroad); err != api.OK || !slices.Equal(got, want) {
			t.Errorf("List(%d, %v) = %v, %d, want %v", x.year, x.abroad, got, err, want)
		}
	}
}

func TestP5_2YearsNotReckoned(t *testing.T) {
	for _, h := range notReckoned() {
		for _, abroad := range whereabouts() {
			if list, err := List(h, abroad); list != nil || err != api.ErrFeastYear {
				t.Errorf("List(%d, %v) = %v, %d, want ErrFeastYear", h, abroad, list, err)
			}
		}
	}
}

func TestP5_2ListsAreNewMemory(t *testing.T) {
	for _, abroad := range whereabouts() {
		first, _ := List(5784, abroad)
		want := slices.Clone(first)
		full := first[:cap(first)]
		for i := range full {
			full[i] = api.Feast{Kind: 99, Day: -1}
		}
		if got, err := List(5784, abroad); err != api.OK || !slices.Equal(got, want) {
			t.Errorf("List(5784, %v), its last answer changed = %v, %d, want %v", abroad, got, err, want)
		}
		for _, x := range want {
			wantDay(t, x.Day, abroad, x.Kind, true)
		}
	}
}

func TestP5_3Rows(t *testing.T) {
	for _, x := range []struct {
		first        civil
		here, abroad int // days of the row
	}{
		{civil{2024, 1, 13}, 1, 1},  // a Saturday that is no feast's
		{civil{2023, 9, 25}, 1, 1},  // the fast, a Monday
		{civil{2024, 10, 12}, 1, 1}, // the fast, a Saturday
		{civil{2018, 9, 10}, 2, 2},  // New Year, a Monday and a Tuesday
		{civil{2023, 9, 16}, 2, 2},  // New Year, its first day a Saturday
		{civil{2024, 10, 3}, 3, 3},  // New Year, a Saturday behind it
		{civil{2018, 9, 24}, 1, 2},  // Booths, a Monday
		{civil{2023, 9, 30}, 1, 2},  // Booths, a Saturday
		{civil{2024, 10, 17}, 1, 3}, // Booths, a Thursday: abroad it touches the Saturday
		{civil{2024, 10, 24}, 1, 3}, // the eighth day, a Thursday
		{civil{2021, 3, 27}, 2, 3},  // a Saturday ahead of Passover
		{civil{2024, 4, 23}, 1, 2},  // Passover, a Tuesday
		{civil{2021, 4, 3}, 1, 2},   // the seventh day, a Saturday
		{civil{2022, 4, 22}, 2, 2},  // the seventh day, a Friday: its second one is a Saturday anyhow
		{civil{2022, 6, 4}, 2, 3},   // a Saturday ahead of Weeks
		{civil{2026, 5, 22}, 2, 2},  // Weeks, a Friday
		{civil{2024, 6, 12}, 1, 2},  // Weeks, a Wednesday
	} {
		first := x.first.number(t)
		wantRun(t, first, first+x.here-1, false)
		wantRun(t, first, first+x.abroad-1, true)
	}
}

func TestP5_3SaturdayBehindASingleFeast(t *testing.T) {
	thursday := civil{2024, 10, 17}.number(t)
	wantRun(t, thursday, thursday, false)
	wantRun(t, thursday+2, thursday+2, false)
	wantNoRun(t, thursday+1, false)
}

func TestP5_3EndsOfHebrewDates(t *testing.T) {
	for _, abroad := range whereabouts() {
		wantRun(t, firstNumber, firstNumber+2, abroad)
		wantRun(t, lastNumber-4, lastNumber-4, abroad)
		for i := range 4 {
			wantNoRun(t, lastNumber-i, abroad)
		}
		for i := 1; i <= 400; i++ {
			wantNoRun(t, firstNumber-i, abroad)
			wantNoRun(t, lastNumber+i, abroad)
		}
		for _, n := range farDays() {
			wantNoRun(t, n, abroad)
		}
	}
}

// reckoned is the kind of each day from 0 to some behind the last date, by New Years and lengths alone, no month asked:
// Passover is 163 days ahead of the next New Year, and Weeks are 50 days behind it.
func reckoned(abroad bool) []int8 {
	kinds := make([]int8, lastNumber+10)
	for h := api.FirstHebrew; h <= api.LastHebrew; h++ {
		first, _ := molad.NewYear(h)
		length, _ := molad.Len(h)
		passover := first + length - 163
		for i, n := range [7]int{first, first + 9, first + 14, first + 21, passover, passover + 6, passover + 50} {
			kinds[n] = int8(i + 1)
			if i == 0 || abroad && i != 1 {
				kinds[n+1] = int8(i + 1)
			}
		}
	}
	return kinds
}

// overAllYears does something for each year that is reckoned, many at a time.
func overAllYears(do func(h, first, length int)) {
	var group sync.WaitGroup
	workers := runtime.NumCPU()
	for w := range workers {
		group.Go(func() {
			for h := api.FirstHebrew + w; h <= api.LastHebrew; h += workers {
				first, _ := molad.NewYear(h)
				length, _ := molad.Len(h)
				do(h, first, length)
			}
		})
	}
	group.Wait()
}

func TestP5_2EveryYear(t *testing.T) {
	for _, abroad := range whereabouts() {
		kinds := reckoned(abroad)
		overAllYears(func(h, first, length int) {
			var want []api.Feast
			for n := first; n < first+length; n++ {
				if kinds[n] != 0 {
					want = append(want, api.Feast{Kind: int(kinds[n]), Day: n})
				}
			}
			if got, err := List(h, abroad); err != api.OK || !slices.Equal(got, want) {
				t.Errorf("List(%d, %v) = %v, %d, want %v", h, abroad, got, err, want)
			}
			for _, x := range want {
				for near := x.Day - 1; near <= x.Day+1; near++ {
					if near >= firstNumber && Kind(near, abroad) != int(kinds[near]) {
						t.Errorf("Kind(%d, %v) = %d, want %d", near, abroad, Kind(near, abroad), kinds[near])
					}
				}
			}
		})
	}
}

func TestP5_4EveryDayOfEveryYear(t *testing.T) {
	feastsHere, feastsAbroad := reckoned(false), reckoned(true)
	overAllYears(func(h, first, length int) {
		for n := first; n < first+length; n++ {
			here, abroad := Rest(n, false), Rest(n, true)
			if here && !abroad {
				t.Errorf("%d is a day of rest, but none abroad", n)
			}
			if here != (n%7 == 6 || feastsHere[n] != 0) || abroad != (n%7 == 6 || feastsAbroad[n] != 0) {
				t.Errorf("Rest(%d) = %v, abroad %v", n, here, abroad)
			}
		}
	})
}

func TestP5_4NoMoreThanThreeTouch(t *testing.T) {
	for _, abroad := range whereabouts() {
		kinds := reckoned(abroad)
		rest := func(n int) bool {
			return n >= firstNumber && n <= lastNumber && (n%7 == 6 || kinds[n] != 0)
		}
		overAllYears(func(h, first, length int) {
			for n := first; n < first+length; n++ {
				if !rest(n) || rest(n-1) {
					continue
				}
				last := n
				for rest(last + 1) {
					last++
				}
				if last-n+1 > 3 {
					t.Errorf("from %d to %d more than three days of rest touch, abroad %v", n, last, abroad)
				}
				wantRun(t, n, last, abroad)
			}
		})
	}
}

func TestExample(t *testing.T) {
	for _, abroad := range whereabouts() {
		wantDay(t, 738779, abroad, api.FeastYear, true)
		wantDay(t, 738780, abroad, api.FeastYear, true)
		wantRun(t, 738779, 738780, abroad)
	}
	if greg.Weekday(738779) != 6 || greg.Weekday(738780) != 0 {
		t.Error("738779 is no Saturday, or 738780 no Sunday")
	}
}
