package molad

import (
	"math/big"
	"testing"

	"newel/api"
)

// reckoned is what the chapter's words make of a year.
type reckoned struct {
	leap                    bool
	months, day, part, late int
	cause                   int // which of the three cases put the year off by a day, or 0
	more                    bool
}

// first is the day on which the year begins.
func (r reckoned) first() int {
	return r.day + r.late
}

// inRound says which years of 19 are leap, by a list.
func inRound(h int) bool {
	switch ((h % 19) + 19) % 19 {
	case 3, 6, 8, 11, 14, 17, 0:
		return true
	}
	return false
}

// weekdayOf counts on from a Monday that the chapter names.
func weekdayOf(day int) int {
	return (day + 1373427 + 1) % 7
}

// causeOf is the number of the case, by the chapter's list, that puts a year off by a day, or 0.
func causeOf(w, p int, leap, aheadLeap bool) int {
	if p >= 19440 {
		return 1
	}
	if !leap && w == 2 && p >= 9924 {
		return 2
	}
	if aheadLeap && w == 1 && p >= 16789 {
		return 3
	}
	return 0
}

// allYears goes from moon to moon, one by one, from the year 1 to the one behind LastHebrew; at h stands the year h.
func allYears() []reckoned {
	years := make([]reckoned, api.LastHebrew+2)
	months, day, part := 0, -1373427, 5604
	for h := 1; h < len(years); h++ {
		r := reckoned{leap: inRound(h), months: months, day: day, part: part}
		r.cause = causeOf(weekdayOf(day), part, inRound(h), inRound(h-1))
		if r.cause != 0 {
			r.late = 1
		}
		switch weekdayOf(day + r.late) {
		case 0, 3, 5:
			r.more = true
			r.late++
		}
		years[h] = r
		length := 12
		if r.leap {
			length = 13
		}
		for range length {
			months++
			day += 29
			part += 765433 - 29*25920
			for part >= 25920 {
				day++
				part -= 25920
			}
		}
	}
	return years
}

// notReckoned are years beyond both ends.
func notReckoned() []int {
	return []int{
		api.MinInt, api.MinInt + 1, api.MinInt / 2, -5784, -3762, -1, 0, 1, 2, 19, 2023, api.FirstHebrew - 2, api.FirstHebrew - 1,
		api.LastHebrew + 1, api.LastHebrew + 2, 3652059, 1 << 32, api.FirstHebrew + 1<<32, api.MaxInt / 2, api.MaxInt - 1, api.MaxInt,
	}
}

// one answers a call's only number, of a year that must be reckoned.
func one(t *testing.T, name string, call func(h int) (int, api.Errno), h int) int {
	t.Helper()
	n, err := call(h)
	if err != api.OK {
		t.Fatalf("%s(%d): error %d", name, h, err)
	}
	return n
}

// leapAsItIs says P3.1's words with a product that may be above MaxInt or below MinInt.
func leapAsItIs(h int) bool {
	n := new(big.Int).Mul(big.NewInt(int64(h)), big.NewInt(7))
	n.Add(n, big.NewInt(1))
	return n.Mod(n, big.NewInt(19)).Int64() < 7 // big.Int's Mod is never below 0
}

func TestP3_1LeapOfNineteenInARow(t *testing.T) {
	for _, from := range []int{1, 20, 5777, 9976, -18, -37, -18999} {
		for i := range 19 {
			want := false
			switch i + 1 {
			case 3, 6, 8, 11, 14, 17, 19:
				want = true
			}
			if got := Leap(from + i); got != want {
				t.Errorf("Leap(%d) = %t", from+i, got)
			}
		}
	}
}

func TestP3_1LeapOfAnyNumber(t *testing.T) {
	for _, x := range []struct {
		h    int
		want bool
	}{
		{0, true}, {-1, false}, {-2, true}, {-3, false}, {-4, false}, {-5, true}, {-19, true}, {-16, true}, {-18, false},
		{3762, true}, {3763, false}, {5782, true}, {5783, false}, {5784, true}, {5785, false}, {9997, true}, {9999, false}, {10000, true},
	} {
		if got := Leap(x.h); got != x.want {
			t.Errorf("Leap(%d) = %t", x.h, got)
		}
	}
	for h := -20000; h <= 20000; h++ {
		if Leap(h) != leapAsItIs(h) {
			t.Errorf("Leap(%d) = %t", h, Leap(h))
		}
	}
}

func TestP3_1LeapWhereTheProductDoesNotFit(t *testing.T) {
	for _, at := range []int{api.MinInt, api.MinInt / 2, api.MinInt / 7, api.MaxInt / 7, api.MaxInt / 2, api.MaxInt} {
		for i := -60; i <= 60; i++ {
			if at < 0 && i < api.MinInt-at || at > 0 && i > api.MaxInt-at {
				continue
			}
			if h := at + i; Leap(h) != leapAsItIs(h) {
				t.Errorf("Leap(%d) = %t", h, Leap(h))
			}
		}
	}
	// 2^63 has the rest 18 by 19.
	for h, want := range map[int]bool{
		api.MaxInt: true, api.MaxInt - 1: false, api.MaxInt - 2: false, api.MaxInt - 3: true,
		api.MinInt: false, api.MinInt + 1: false, api.MinInt + 2: true, api.MinInt + 3: false,
	} {
		if want != leapAsItIs(h) || Leap(h) != want {
			t.Errorf("Leap(%d) = %t, want %t", h, Leap(h), want)
		}
	}
}

func TestP3_1EndsAndExample(t *testing.T) {
	for _, x := range []struct{ h, months, day, part int }{
		{3762, 46517, 247, 22385}, {3763, 46530, 631, 19734}, {5784, 71526, 738778, 12762}, {5785, 71539, 739162, 10111},
		{9998, 123647, 2277942, 15275}, {9999, 123659, 2278296, 24791},
	} {
		if n, err := Months(x.h); n != x.months || err != api.OK {
			t.Errorf("Months(%d) = %d, %d, want %d", x.h, n, err, x.months)
		}
		if d, p, err := Molad(x.h); d != x.day || p != x.part || err != api.OK {
			t.Errorf("Molad(%d) = %d, %d, %d, want %d, %d", x.h, d, p, err, x.day, x.part)
		}
	}
}

func TestP3_1EveryYear(t *testing.T) {
	years := allYears()
	for h := api.FirstHebrew; h <= api.LastHebrew; h++ {
		want := years[h]
		if Leap(h) != want.leap {
			t.Errorf("Leap(%d) = %t", h, Leap(h))
		}
		if n, err := Months(h); n != want.months || err != api.OK {
			t.Errorf("Months(%d) = %d, %d, want %d", h, n, err, want.months)
		}
		if d, p, err := Molad(h); d != want.day || p != want.part || err != api.OK {
			t.Errorf("Molad(%d) = %d, %d, %d, want %d, %d", h, d, p, err, want.day, want.part)
		}
	}
}

func TestP3_1AndP3_2YearsThatAreNotReckoned(t *testing.T) {
	calls := map[string]func(h int) (int, api.Errno){"Months": Months, "Delay": Delay, "NewYear": NewYear, "Len": Len}
	for _, h := range notReckoned() {
		for name, call := range calls {
			if n, err := call(h); n != 0 || err != api.ErrMoladYear {
				t.Errorf("%s(%d) = %d, %d, want ErrMoladYear", name, h, n, err)
			}
		}
		if d, p, err := Molad(h); d != 0 || p != 0 || err != api.ErrMoladYear {
			t.Errorf("Molad(%d) = %d, %d, %d, want ErrMoladYear", h, d, p, err)
		}
	}
}

func TestP3_2DelayAtEachBound(t *testing.T) {
	// No year that is reckoned has a moon just at a bound, so the rule itself is asked.
	for _, x := range []struct {
		w, p              int
		leap, aheadLeap   bool
		want              int
		wantOneFurtherOff int // in the next part
	}{
		// Case 1, on each weekday: 19440 puts off, and a day that may not begin a year once more.
		{0, 19439, false, false, 1, 1}, {1, 19439, false, false, 0, 1}, {3, 19439, false, false, 1, 1}, {4, 19439, false, false, 0, 2},
		{5, 19439, false, false, 1, 1}, {6, 19439, false, false, 0, 2}, {2, 19439, true, false, 0, 2}, {1, 19439, true, false, 0, 1},
		{6, 19439, false, true, 0, 2}, {4, 19439, false, true, 0, 2}, {1, 19439, false, true, 1, 1}, {2, 19439, false, false, 2, 2},
		// Case 2: of a Tuesday of a year that is not leap.
		{2, 9923, false, false, 0, 2}, {2, 9923, false, true, 0, 2}, {2, 9923, true, false, 0, 0},
		{1, 9923, false, false, 0, 0}, {1, 9923, false, true, 0, 0}, {4, 9923, false, false, 0, 0}, {6, 9923, false, true, 0, 0}, {3, 9923, false, false, 1, 1},
		// Case 3: of a Monday behind a leap year.
		{1, 16788, false, true, 0, 1}, {1, 16788, false, false, 0, 0}, {1, 16788, true, false, 0, 0},
		{2, 16788, true, false, 0, 0}, {4, 16788, false, true, 0, 0}, {6, 16788, false, true, 0, 0}, {5, 16788, false, true, 1, 1},
		// None, and case 4 alone, at a day's ends.
		{0, 0, false, false, 1, 1}, {1, 0, false, true, 0, 0}, {2, 0, false, false, 0, 0}, {3, 0, true, false, 1, 1},
		{4, 0, false, false, 0, 0}, {5, 0, false, true, 1, 1}, {6, 0, true, false, 0, 0}, {6, 25918, true, false, 2, 2}, {0, 25918, true, false, 1, 1},
	} {
		if got := putOff(x.w, x.p, x.leap, x.aheadLeap); got != x.want {
			t.Errorf("%+v: got %d", x, got)
		}
		if got := putOff(x.w, x.p+1, x.leap, x.aheadLeap); got != x.wantOneFurtherOff {
			t.Errorf("%+v: in the next part %d", x, got)
		}
	}
}

func TestP3_2DelayOfYearsNearestEachBound(t *testing.T) {
	for _, x := range []struct{ h, part, want int }{
		// Case 1, on Sunday to Saturday: the last part below 19440, and the first one behind.
		{4643, 19386, 1}, {9092, 19477, 1}, {4277, 19395, 0}, {9643, 19452, 1}, {3911, 19404, 2}, {9277, 19461, 2}, {9828, 19436, 1}, {8911, 19470, 1},
		{3907, 19427, 0}, {9462, 19445, 2}, {4458, 19402, 1}, {9096, 19454, 1}, {9647, 19429, 0}, {9458, 19468, 2},
		// Case 2: years that are not leap, then leap ones.
		{9646, 9913, 0}, {8540, 9986, 2}, {6303, 9749, 0}, {8729, 9947, 0},
		// Case 3: behind leap years, then behind others.
		{5935, 16646, 0}, {8361, 16844, 1}, {5766, 18156, 1}, {9467, 16771, 0}, {8550, 16805, 0},
		// The weekdays beside them.
		{9095, 9938, 0}, {9642, 9936, 0}, {8910, 9954, 0}, {9097, 16803, 0}, {7259, 16894, 0},
		// Case 4 alone, none, and the ends.
		{5784, 12762, 1}, {5785, 10111, 0}, {3762, 22385, 2}, {9999, 24791, 2},
	} {
		_, p, err := Molad(x.h)
		if p != x.part || err != api.OK {
			t.Errorf("Molad(%d): part %d, error %d, want %d", x.h, p, err, x.part)
		}
		if n, err := Delay(x.h); n != x.want || err != api.OK {
			t.Errorf("Delay(%d) = %d, %d, want %d", x.h, n, err, x.want)
		}
	}
}

func TestP3_2DelayOfEveryYear(t *testing.T) {
	years := allYears()
	seen := map[[2]int]int{}
	for h := api.FirstHebrew; h <= api.LastHebrew; h++ {
		if n, err := Delay(h); n != years[h].late || err != api.OK {
			t.Errorf("Delay(%d) = %d, %d, want %d", h, n, err, years[h].late)
		}
		once := 0
		if years[h].more {
			once = 1
		}
		seen[[2]int{years[h].cause, once}]++
	}
	for kind, want := range map[[2]int]int{{0, 0}: 2429, {0, 1}: 2005, {1, 0}: 890, {1, 1}: 670, {2, 1}: 208, {3, 0}: 36} {
		if seen[kind] != want {
			t.Errorf("case %d, and %d day more: %d years, want %d", kind[0], kind[1], seen[kind], want)
		}
	}
}

func TestP3_2NewYearAndLen(t *testing.T) {
	for _, x := range []struct{ h, first, days int }{
		{3762, 249, 383}, {3763, 632, 354}, {5766, 732223, 354}, {5783, 738424, 355}, {5784, 738779, 383}, {5785, 739162, 355}, {5786, 739517, 354},
		{9998, 2277944, 354}, {9999, 2278298, 353},
	} {
		if n, err := NewYear(x.h); n != x.first || err != api.OK {
			t.Errorf("NewYear(%d) = %d, %d, want %d", x.h, n, err, x.first)
		}
		if n, err := Len(x.h); n != x.days || err != api.OK {
			t.Errorf("Len(%d) = %d, %d, want %d", x.h, n, err, x.days)
		}
	}
}

func TestP3_2EveryYear(t *testing.T) {
	years := allYears()
	for h := api.FirstHebrew; h <= api.LastHebrew; h++ {
		first := one(t, "NewYear", NewYear, h)
		if first != years[h].first() {
			t.Errorf("NewYear(%d) = %d, want %d", h, first, years[h].first())
		}
		day, _, err := Molad(h)
		if first != day+one(t, "Delay", Delay, h) || err != api.OK {
			t.Errorf("NewYear(%d) = %d, but its moon is on %d, error %d", h, first, day, err)
		}
		// Of LastHebrew too: the reckoning above goes one year further.
		length := one(t, "Len", Len, h)
		if length != years[h+1].first()-years[h].first() {
			t.Errorf("Len(%d) = %d, want %d", h, length, years[h+1].first()-years[h].first())
		}
		if h < api.LastHebrew && one(t, "NewYear", NewYear, h+1) != first+length {
			t.Errorf("%d begins on %d and has %d days, but the next one begins on %d", h, first, length, one(t, "NewYear", NewYear, h+1))
		}
	}
}

func TestP3_3DaysOfAYear(t *testing.T) {
	seen := map[int]bool{}
	for h := api.FirstHebrew; h <= api.LastHebrew; h++ {
		least := 353
		if Leap(h) {
			least = 383
		}
		length := one(t, "Len", Len, h)
		if length < least || length > least+2 {
			t.Errorf("Len(%d) = %d", h, length)
		}
		seen[length] = true
	}
	if len(seen) != 6 {
		t.Errorf("not each of the six lengths comes: %v", seen)
	}
}

func TestP3_3NoYearBeginsOnThreeWeekdays(t *testing.T) {
	seen := map[int]bool{}
	for h := api.FirstHebrew; h <= api.LastHebrew; h++ {
		first := one(t, "NewYear", NewYear, h)
		switch w := first % 7; w {
		case 1, 2, 4, 6:
			seen[w] = true
		default:
			t.Errorf("%d begins on the day %d, of weekday %d", h, first, w)
		}
	}
	if len(seen) != 4 {
		t.Errorf("not each of the four weekdays comes: %v", seen)
	}
}

func TestP3_3MonthsOfNineteenYears(t *testing.T) {
	for h := api.FirstHebrew; h+19 <= api.LastHebrew; h++ {
		from, to := one(t, "Months", Months, h), one(t, "Months", Months, h+19)
		if to-from != 235 {
			t.Errorf("from %d on 19 years have %d months", h, to-from)
		}
	}
	for h := api.FirstHebrew; h < api.LastHebrew; h++ {
		want := 12
		if Leap(h) {
			want = 13
		}
		if n := one(t, "Months", Months, h+1) - one(t, "Months", Months, h); n != want {
			t.Errorf("%d has %d months", h, n)
		}
	}
}
