package sunset

import (
	"runtime"
	"slices"
	"sync"
	"testing"
	"time"

	"newel/api"
	"newel/zone"
)

// The two days of 2023 on which the clocks of the zone north are set.
const (
	onDay  = 738605 // March 26
	offDay = 738822 // October 29
)

// The first and the last day of which Moment is asked.
const (
	early = 401
	late  = 3651998
)

// chapter is the table of the chapter's example: June 1200, July 1170.
func chapter() api.Sun {
	return api.Sun{1000, 1050, 1100, 1150, 1180, 1200, 1170, 1130, 1080, 1030, 1000, 990}
}

// flat is a table of one minute.
func flat(minute int) api.Sun {
	var s api.Sun
	for i := range s {
		s[i] = minute
	}
	return s
}

// oneStep is a table that goes from the month at i, of a minute, to the next one by a step, and back by small ones over the rest of the year.
func oneStep(i, minute, step int) api.Sun {
	var s api.Sun
	for k := range s {
		s[(i+1+k)%12] = minute + step - step*k/11
	}
	return s
}

// tables are many that may be: flat ones, hills, saws, of each step the greatest, and some without an order.
func tables() []api.Sun {
	list := []api.Sun{
		chapter(), flat(900), flat(1320), flat(1111),
		{900, 1020, 1140, 1260, 1320, 1320, 1320, 1260, 1140, 1020, 900, 900},
		{1320, 1200, 1080, 960, 900, 900, 900, 960, 1080, 1200, 1320, 1320},
		{1000, 1120, 1000, 1120, 1000, 1120, 1000, 1120, 1000, 1120, 1000, 1120},
		{1320, 1200, 1320, 1200, 1320, 1200, 1320, 1200, 1320, 1200, 1320, 1200},
		{1000, 1001, 1000, 999, 1000, 1001, 1000, 999, 1000, 1001, 1000, 999},
	}
	for i := range 12 {
		list = append(list, oneStep(i, 1100, 120), oneStep(i, 1100, -120), oneStep(i, 1100, 1), oneStep(i, 1100, -1), oneStep(i, 1100, 29), oneStep(i, 1100, -31))
	}
	seed := uint32(7)
	for range 60 {
		var s api.Sun
		for i := range s {
			seed = seed*1664525 + 1013904223
			s[i] = 1050 + int(seed>>8)%121 // any two differ by 120 at most
		}
		list = append(list, s)
	}
	return list
}

// spoilt are tables that may not be, each with its error.
func spoilt() map[api.Sun]api.Errno {
	list := map[api.Sun]api.Errno{
		{}: api.ErrSunMinute, flat(899): api.ErrSunMinute, flat(1321): api.ErrSunMinute, flat(-1000): api.ErrSunMinute,
		flat(api.MinInt): api.ErrSunMinute, flat(api.MaxInt): api.ErrSunMinute,
	}
	for i := range 12 {
		for _, minute := range []int{899, 1321, 0, api.MinInt, api.MaxInt} {
			s := chapter()
			s[i] = minute
			list[s] = api.ErrSunMinute
		}
		list[oneStep(i, 1100, 121)] = api.ErrSunStep
		list[oneStep(i, 1100, -121)] = api.ErrSunStep
	}
	return list
}

// north is shifted in the middle of the year.
func north() api.Zone {
	return api.Zone{Base: 60, Shift: 60, On: api.Turn{Month: 3, Week: 5, Minute: 120}, Off: api.Turn{Month: 10, Week: 5, Minute: 120}}
}

// zones are many that may be: ahead and behind, with a shift and without, and with turns about the minutes of sunsets.
func zones() []api.Zone {
	list := []api.Zone{
		{}, {Base: -720}, {Base: 840}, {Base: -1}, {Base: 1}, {Base: 345}, north(),
		{Base: 630, Shift: 30, On: api.Turn{Month: 10, Week: 1, Minute: 120}, Off: api.Turn{Month: 4, Week: 1, Minute: 90}},
		{Base: -300, Shift: 60, On: api.Turn{Month: 3, Week: 2, Minute: 120}, Off: api.Turn{Month: 11, Week: 1, Minute: 60}},
		{Base: -720, Shift: 120, On: api.Turn{Month: 1, Week: 1}, Off: api.Turn{Month: 11, Week: 5, Weekday: 6, Minute: 1439}},
		{Base: 840, Shift: 120, On: api.Turn{Month: 12, Week: 5, Weekday: 6, Minute: 1439}, Off: api.Turn{Month: 2, Week: 5, Weekday: 1}},
	}
	for _, minute := range []int{900, 999, 1000, 1001, 1100, 1320} {
		list = append(list,
			api.Zone{Base: minute - 1000, Shift: 120, On: api.Turn{Month: 3, Week: 5, Minute: minute}, Off: api.Turn{Month: 10, Week: 5, Minute: minute}},
			api.Zone{Base: 1000 - minute, Shift: 90, On: api.Turn{Month: 10, Week: 5, Minute: minute}, Off: api.Turn{Month: 3, Week: 5, Minute: minute}})
	}
	return list
}

// wrongZones are zones that may not be, each with its error.
func wrongZones() map[api.Zone]api.Errno {
	list := map[api.Zone]api.Errno{
		{Base: -721}: api.ErrZoneBase, {Base: 841}: api.ErrZoneBase, {Base: api.MinInt}: api.ErrZoneBase, {Base: api.MaxInt}: api.ErrZoneBase,
		{Shift: -1}: api.ErrZoneShift, {Shift: 121}: api.ErrZoneShift, {Shift: api.MinInt}: api.ErrZoneShift, {Shift: api.MaxInt}: api.ErrZoneShift,
		{Shift: 60}: api.ErrZoneTurn, {On: api.Turn{Week: 1}}: api.ErrZoneTurn, {Off: api.Turn{Minute: api.MinInt}}: api.ErrZoneTurn,
	}
	z := north()
	z.Off.Month = 4
	list[z] = api.ErrZoneTurn
	return list
}

// number is a civil day's number, by the library's calendar.
func number(year int, month time.Month, day int) int {
	const beginning = -62135596800 // of the day 1, in the library's seconds
	return int((time.Date(year, month, day, 0, 0, 0, 0, time.UTC).Unix()-beginning)/86400) + 1
}

// civil is the library's date of a day's number.
func civil(n int) time.Time {
	return time.Date(1, time.January, n, 0, 0, 0, 0, time.UTC)
}

// reckoned is the minute of a day by the library's calendar, with the quotient looked for, not divided.
func reckoned(s api.Sun, n int) int {
	d := civil(n)
	days := time.Date(d.Year(), d.Month()+1, 0, 0, 0, 0, 0, time.UTC).Day()
	a, b := s[d.Month()-1], s[0]
	if d.Month() != time.December {
		b = s[d.Month()]
	}
	way := (b - a) * (d.Day() - 1)
	q := -200
	for (q+1)*days <= way {
		q++
	}
	return a + q
}

// wantCheck holds Check to an error, and all other calls too: a table that may not be is told whatever the day.
func wantCheck(t *testing.T, s api.Sun, want api.Errno) {
	t.Helper()
	if err := Check(s); err != want {
		t.Errorf("Check(%v) = %d, want %d", s, err, want)
	}
	if want == api.OK {
		wantAt(t, s, onDay, reckoned(s, onDay))
		return
	}
	for _, n := range []int{onDay, 1, early, late, api.MaxDay, 0, -1, api.MaxDay + 1, api.MinInt, api.MaxInt} {
		wantNotAt(t, s, n, want)
		wantNoMoment(t, api.Zone{}, s, n, want)
		wantNoMoment(t, north(), s, n, want)
	}
}

// wantAt holds At to a minute.
func wantAt(t *testing.T, s api.Sun, n, want int) {
	t.Helper()
	if got, err := At(s, n); got != want || err != api.OK {
		t.Errorf("At(%v, %d) = %d, %d, want %d", s, n, got, err, want)
	}
}

// wantNotAt holds At to an error, with 0.
func wantNotAt(t *testing.T, s api.Sun, n int, want api.Errno) {
	t.Helper()
	if got, err := At(s, n); got != 0 || err != want {
		t.Errorf("At(%v, %d) = %d, %d, want 0, %d", s, n, got, err, want)
	}
}

// wantMoment holds Moment to an instant.
func wantMoment(t *testing.T, z api.Zone, s api.Sun, n, want int) {
	t.Helper()
	if got, err := Moment(z, s, n); got != want || err != api.OK {
		t.Errorf("Moment(%v, %v, %d) = %d, %d, want %d", z, s, n, got, err, want)
	}
}

// wantNoMoment holds Moment to an error, with 0.
func wantNoMoment(t *testing.T, z api.Zone, s api.Sun, n int, want api.Errno) {
	t.Helper()
	if got, err := Moment(z, s, n); got != 0 || err != want {
		t.Errorf("Moment(%v, %v, %d) = %d, %d, want 0, %d", z, s, n, got, err, want)
	}
}

func TestTablesMayBe(t *testing.T) {
	for _, s := range tables() {
		wantCheck(t, s, api.OK)
	}
}

func TestP7_1CheckMinutes(t *testing.T) {
	for i := range 12 {
		for _, x := range []struct {
			about, minute int
			want          api.Errno
		}{
			{900, 900, api.OK}, {960, 900, api.OK}, {1020, 900, api.OK}, {960, 901, api.OK},
			{1320, 1320, api.OK}, {1260, 1320, api.OK}, {1200, 1320, api.OK}, {1260, 1319, api.OK},
			{900, 899, api.ErrSunMinute}, {960, 899, api.ErrSunMinute}, {1019, 899, api.ErrSunMinute},
			{1320, 1321, api.ErrSunMinute}, {1260, 1321, api.ErrSunMinute}, {1201, 1321, api.ErrSunMinute},
			{1000, 0, api.ErrSunMinute}, {1000, -1, api.ErrSunMinute}, {1000, -1000, api.ErrSunMinute}, {1000, 1439, api.ErrSunMinute}, {1000, 1440, api.ErrSunMinute},
			{1000, 1<<32 + 1000, api.ErrSunMinute}, {1000, -1<<32 + 1000, api.ErrSunMinute},
			{1000, api.MinInt, api.ErrSunMinute}, {1000, api.MinInt + 1000, api.ErrSunMinute}, {1000, api.MaxInt - 1000, api.ErrSunMinute}, {1000, api.MaxInt, api.ErrSunMinute},
		} {
			s := flat(x.about)
			s[i] = x.minute
			wantCheck(t, s, x.want)
		}
	}
	wantCheck(t, api.Sun{}, api.ErrSunMinute)
}

func TestP7_1CheckSteps(t *testing.T) {
	for i := range 12 {
		for _, minute := range []int{1021, 1100, 1199} {
			for _, step := range []int{0, 1, -1, 60, -60, 119, -119, 120, -120} {
				wantCheck(t, oneStep(i, minute, step), api.OK)
			}
			wantCheck(t, oneStep(i, minute, 121), api.ErrSunStep)
			wantCheck(t, oneStep(i, minute, -121), api.ErrSunStep)
		}
		wantCheck(t, oneStep(i, 900, 420), api.ErrSunStep)
		wantCheck(t, oneStep(i, 1320, -420), api.ErrSunStep)
		// One month that stands out has two such steps: on and back.
		for _, x := range []struct {
			step int
			want api.Errno
		}{{120, api.OK}, {-120, api.OK}, {121, api.ErrSunStep}, {-121, api.ErrSunStep}} {
			s := flat(1100)
			s[i] += x.step
			wantCheck(t, s, x.want)
		}
	}
	// Only a month and the next one are held against each other: two months on, and over the year, more may lie between.
	wantCheck(t, api.Sun{900, 1020, 1140, 1260, 1320, 1320, 1320, 1320, 1260, 1140, 1020, 900}, api.OK)
	wantCheck(t, api.Sun{900, 1020, 1140, 1260, 1320, 1320, 1320, 1320, 1320, 1260, 1140, 1020}, api.OK)
	wantCheck(t, api.Sun{900, 1020, 1140, 1260, 1320, 1320, 1320, 1320, 1320, 1260, 1140, 1021}, api.ErrSunStep)
}

func TestP7_1CheckAsksAllMinutesFirst(t *testing.T) {
	for i := range 12 {
		for _, step := range []int{121, -121} {
			for k := range 12 {
				for _, minute := range []int{899, 1321, 0, api.MinInt, api.MaxInt} {
					s := oneStep(i, 1100, step)
					s[k] = minute
					wantCheck(t, s, api.ErrSunMinute)
				}
			}
		}
	}
	// A minute that lies but little beyond, so that no step about it is wrong, and a step far from it that is.
	wantCheck(t, api.Sun{900, 1021, 1000, 950, 900, 900, 900, 899, 900, 900, 900, 900}, api.ErrSunMinute)
	wantCheck(t, api.Sun{900, 1021, 1000, 950, 900, 900, 900, 900, 900, 900, 900, 899}, api.ErrSunMinute)
	wantCheck(t, api.Sun{899, 900, 900, 900, 900, 900, 900, 900, 900, 900, 1021, 950}, api.ErrSunMinute)
	wantCheck(t, api.Sun{900, 1021, 1000, 950, 900, 900, 900, 900, 900, 900, 900, 900}, api.ErrSunStep)
}

func TestP7_1CheckMinutesWhoseStepIsNoWholeNumber(t *testing.T) {
	for i := range 12 {
		for _, x := range [][2]int{{api.MinInt, api.MaxInt}, {api.MaxInt, api.MinInt}, {api.MinInt, api.MinInt}, {api.MaxInt, api.MaxInt}, {api.MinInt, 1}, {-2, api.MaxInt}} {
			s := flat(1000)
			s[i], s[(i+1)%12] = x[0], x[1]
			wantCheck(t, s, api.ErrSunMinute)
		}
	}
}

func TestP7_1AtExamples(t *testing.T) {
	wantAt(t, chapter(), number(2023, 6, 16), 1185)
	for _, x := range []struct {
		year        int
		month       time.Month
		day, minute int
	}{
		// January, of 31 days: 50 more to go.
		{2023, 1, 1, 1000}, {2023, 1, 2, 1001}, {2023, 1, 3, 1003}, {2023, 1, 16, 1024}, {2023, 1, 31, 1048},
		// February, 50 more as well, of 28 days and of 29.
		{2023, 2, 1, 1050}, {2023, 2, 2, 1051}, {2023, 2, 15, 1075}, {2023, 2, 28, 1098}, {2023, 3, 1, 1100},
		{2024, 2, 1, 1050}, {2024, 2, 15, 1074}, {2024, 2, 28, 1096}, {2024, 2, 29, 1098}, {2024, 3, 1, 1100},
		{1900, 2, 28, 1098}, {2000, 2, 28, 1096}, {2000, 2, 29, 1098},
		// June, of 30 days, and July, of 31: 30 and 40 less to go, divided down.
		{2023, 6, 1, 1200}, {2023, 6, 2, 1199}, {2023, 6, 30, 1171}, {2023, 7, 1, 1170}, {2023, 7, 2, 1168}, {2023, 7, 3, 1167}, {2023, 7, 31, 1131}, {2023, 8, 1, 1130},
		// November, 10 less to go: the second day is a minute less already.
		{2023, 11, 1, 1000}, {2023, 11, 2, 999}, {2023, 11, 4, 999}, {2023, 11, 5, 998}, {2023, 11, 30, 990},
		// December, of 31 days: 10 more to go to January.
		{2023, 12, 1, 990}, {2023, 12, 2, 990}, {2023, 12, 5, 991}, {2023, 12, 31, 999}, {2024, 1, 1, 1000},
		{1, 1, 1, 1000}, {9999, 12, 1, 990}, {9999, 12, 31, 999},
	} {
		wantAt(t, chapter(), number(x.year, x.month, x.day), x.minute)
	}
}

func TestP7_1AtOfTheGreatestSteps(t *testing.T) {
	saw := api.Sun{1000, 1120, 1000, 1120, 1000, 1120, 1000, 1120, 1000, 1120, 1000, 1120}
	for _, x := range []struct {
		year        int
		month       time.Month
		day, minute int
	}{
		{2023, 1, 2, 1003}, {2023, 1, 31, 1116}, {2023, 2, 2, 1115}, {2023, 2, 28, 1004}, {2024, 2, 2, 1115}, {2024, 2, 28, 1008}, {2024, 2, 29, 1004},
		{2023, 12, 1, 1120}, {2023, 12, 2, 1116}, {2023, 12, 31, 1003}, {2024, 1, 1, 1000},
	} {
		wantAt(t, saw, number(x.year, x.month, x.day), x.minute)
	}
	for _, minute := range []int{900, 1111, 1320} {
		for n := number(2023, 12, 1); n < number(2025, 2, 1); n++ {
			wantAt(t, flat(minute), n, minute)
		}
	}
}

func TestP7_1AtFirstAndLastDaysOfMonths(t *testing.T) {
	for _, s := range tables() {
		for _, year := range []int{1, 4, 100, 400, 1900, 2000, 2023, 2024, 2100, 9996, 9999} {
			for month := time.January; month <= time.December; month++ {
				first, last := number(year, month, 1), number(year, month+1, 0)
				for _, n := range []int{first, first + 1, last - 1, last} {
					wantAt(t, s, n, reckoned(s, n))
				}
				wantAt(t, s, first, s[month-1])
			}
		}
	}
}

func TestP7_1AtEachDayOfFourYears(t *testing.T) {
	for _, s := range tables() {
		for n := number(2023, 1, 1); n < number(2027, 1, 1); n++ {
			wantAt(t, s, n, reckoned(s, n))
		}
	}
}

func TestP7_1AtFirstAndLastDays(t *testing.T) {
	for _, s := range tables() {
		for _, n := range []int{1, 2, 400, 401, 3651998, 3651999, api.MaxDay - 1, api.MaxDay} {
			wantAt(t, s, n, reckoned(s, n))
		}
		for _, n := range []int{0, -1, -31, -onDay, api.MaxDay + 1, api.MaxDay + 2, 3652425, 1<<32 + onDay, -1<<32 + onDay, api.MinInt, api.MinInt + 1, api.MaxInt - 1, api.MaxInt} {
			wantNotAt(t, s, n, api.ErrSunDay)
		}
	}
}

func TestP7_1AtTellsTheTableFirst(t *testing.T) {
	for s, want := range spoilt() {
		wantCheck(t, s, want)
	}
}

func TestP7_2MomentExamples(t *testing.T) {
	june := number(2023, 6, 16)
	for _, x := range []struct {
		z    api.Zone
		n    int
		want int
	}{
		{api.Zone{}, june, june*1440 + 1185}, {api.Zone{Base: 60}, june, june*1440 + 1125}, {api.Zone{Base: -60}, june, june*1440 + 1245},
		{api.Zone{Base: 840}, june, june*1440 + 345}, {api.Zone{Base: -720}, june, june*1440 + 1905},
		{north(), june, june*1440 + 1125}, // the clocks, which are ahead by then, tell an hour more
		{north(), onDay, onDay*1440 + 1140 - 60}, {north(), offDay, offDay*1440 + 1002 - 60},
		{north(), number(2023, 12, 31), number(2023, 12, 31)*1440 + 939},
		{api.Zone{}, early, early*1440 + 1057}, {api.Zone{}, late, late*1440 + 1000},
	} {
		wantMoment(t, x.z, chapter(), x.n, x.want)
	}
}

func TestP7_2MomentOnDaysOnWhichClocksAreShifted(t *testing.T) {
	// The sun sets at 1000: ahead of the turn, just at it, just behind it and later on.
	for _, minute := range []int{0, 120, 879, 880, 881, 999, 1000, 1001, 1119, 1120, 1439} {
		for _, base := range []int{-720, -1, 0, 60, 840} {
			for _, shift := range []int{1, 60, 120} {
				on, off := api.Turn{Month: 3, Week: 5, Minute: minute}, api.Turn{Month: 10, Week: 5, Minute: minute}
				for _, z := range []api.Zone{{Base: base, Shift: shift, On: on, Off: off}, {Base: base, Shift: shift, On: off, Off: on}} {
					for _, n := range []int{onDay - 1, onDay, onDay + 1, offDay - 1, offDay, offDay + 1} {
						wantMoment(t, z, flat(1000), n, n*1440+1000-base)
					}
				}
			}
		}
	}
}

func TestP7_2MomentFirstAndLastDays(t *testing.T) {
	for _, z := range zones() {
		for _, s := range tables() {
			for _, n := range []int{early, early + 1, late - 1, late} {
				wantMoment(t, z, s, n, n*1440+reckoned(s, n)-z.Base)
			}
			for _, n := range []int{early - 1, late + 1, 1, api.MaxDay, 0, -1, -onDay, api.MaxDay + 1, 1<<32 + onDay, -1<<32 + onDay, api.MinInt, api.MinInt + 1, api.MinInt / 1440, api.MaxInt / 1440, api.MaxInt - 1, api.MaxInt} {
				wantNoMoment(t, z, s, n, api.ErrSunDay)
			}
		}
	}
}

func TestP7_2MomentTellsTheZoneFirst(t *testing.T) {
	days := []int{onDay, early, late, early - 1, late + 1, 0, api.MinInt, api.MaxInt}
	for z, zoneErr := range wrongZones() {
		for _, n := range days {
			wantNoMoment(t, z, chapter(), n, zoneErr)
			for s := range spoilt() {
				wantNoMoment(t, z, s, n, zoneErr)
			}
		}
	}
	for _, z := range zones() {
		for s, sunErr := range spoilt() {
			for _, n := range days {
				wantNoMoment(t, z, s, n, sunErr)
			}
		}
	}
}

// wantUnshifted holds Moment to the instant at which clocks, without their shift, tell the minute At of the day.
func wantUnshifted(t *testing.T, z api.Zone, s api.Sun, n int) {
	minute, err := At(s, n)
	at, momentErr := Moment(z, s, n)
	if err != api.OK || momentErr != api.OK {
		t.Errorf("At and Moment of %v, %v, %d: errors %d, %d", z, s, n, err, momentErr)
		return
	}
	day, told, err := zone.Local(z, at)
	shifted, _ := zone.Summer(z, at)
	minutes := day*1440 + told
	if shifted {
		minutes -= z.Shift
	}
	if minutes != n*1440+minute || err != api.OK {
		t.Errorf("at Moment(%v, %v, %d) = %d unshifted time is %d, %d, error %d, want the minute %d", z, s, n, at, minutes/1440, minutes%1440, err, minute)
	}
}

// turnDays are the days about which a zone's clocks are set in some years, with their neighbours, and with the year's ends.
func turnDays(z api.Zone, from, to int) []int {
	var list []int
	for n := number(from, 1, 2); n <= number(to, 12, 31); n++ {
		before, _ := zone.Summer(z, n*1440-z.Base)
		behind, _ := zone.Summer(z, (n+1)*1440-z.Base)
		if before != behind {
			list = append(list, n-1, n, n+1)
		}
	}
	return append(list, number(from, 12, 31), number(to, 1, 1))
}

func TestP7_2UnshiftedTimeIsTheMinute(t *testing.T) {
	for _, z := range zones() {
		days := turnDays(z, 2019, 2024)
		if z.Shift > 0 && len(days) < 6*2*3-3 {
			t.Errorf("the clocks of %v are set about %v alone", z, days)
		}
		for n := number(2023, 1, 1); n <= number(2024, 12, 31); n += 17 {
			days = append(days, n)
		}
		for _, s := range tables() {
			for _, n := range slices.Concat(days, []int{early, early + 1, late - 1, late}) {
				wantUnshifted(t, z, s, n)
			}
		}
	}
}

// wantFollows holds a stretch of days to what follows: a month's first day has its minute, and from day to day it differs by 5 at most.
func wantFollows(t *testing.T, s api.Sun, from, to int) {
	before, _ := At(s, from)
	for d := civil(from); from <= to; d, from = d.AddDate(0, 0, 1), from+1 {
		minute, err := At(s, from)
		if err != api.OK || max(minute, before)-min(minute, before) > 5 {
			t.Errorf("At(%v, %d) = %d, %d behind %d", s, from, minute, err, before)
		}
		if d.Day() == 1 && minute != s[d.Month()-1] {
			t.Errorf("At(%v, %d) = %d, on the first day of month %d", s, from, minute, d.Month())
		}
		before = minute
	}
}

// overTables does something for each of the tables, many at a time.
func overTables(do func(s api.Sun)) {
	var group sync.WaitGroup
	list, workers := tables(), runtime.NumCPU()
	for w := range workers {
		group.Go(func() {
			for i := w; i < len(list); i += workers {
				do(list[i])
			}
		})
	}
	group.Wait()
}

func TestP7_3FromDayToDay(t *testing.T) {
	overTables(func(s api.Sun) {
		wantFollows(t, s, 1, 1000)
		wantFollows(t, s, number(1896, 1, 1), number(1905, 1, 1))
		wantFollows(t, s, number(1999, 1, 1), number(2029, 1, 1))
		wantFollows(t, s, api.MaxDay-1000, api.MaxDay)
	})
}

func TestP7_3EachDay(t *testing.T) {
	saw := api.Sun{1000, 1120, 1000, 1120, 1000, 1120, 1000, 1120, 1000, 1120, 1000, 1120}
	var group sync.WaitGroup
	workers := runtime.NumCPU()
	part := api.MaxDay / workers
	for w := range workers {
		// Each part begins with the last day of the part ahead of it, so that no step is left out.
		group.Go(func() {
			wantFollows(t, saw, max(1, w*part), min(api.MaxDay, (w+1)*part))
		})
	}
	group.Wait()
	wantFollows(t, saw, workers*part, api.MaxDay)
}

func TestP7_3MomentsFromDayToDay(t *testing.T) {
	for _, z := range zones() {
		for _, s := range tables() {
			before, _ := Moment(z, s, number(2023, 9, 1)-1)
			for n := number(2023, 9, 1); n <= number(2024, 4, 1); n++ {
				at, err := Moment(z, s, n)
				if step := at - before - 1440; err != api.OK || step < -5 || step > 5 {
					t.Errorf("Moment(%v, %v, %d) = %d, %d behind %d", z, s, n, at, err, before)
				}
				before = at
			}
		}
	}
}

func TestP1AllArgumentsEnd(t *testing.T) {
	numbers := []int{api.MinInt, api.MinInt + 1, -1 << 32, -1, 0, 1, 899, 900, 1000, 1320, 1321, 1 << 32, api.MaxInt - 1, api.MaxInt}
	days := []int{api.MinInt, -1, 0, 1, 400, 401, onDay, 3651998, 3651999, api.MaxDay, api.MaxDay + 1, api.MaxInt}
	for _, a := range numbers {
		for _, b := range numbers {
			for i := range 12 {
				s := flat(a)
				s[i] = b
				for _, n := range days {
					minute, err := At(s, n)
					if err != api.OK && minute != 0 || err == api.OK && (minute < 900 || minute > 1320) {
						t.Errorf("At(%v, %d) = %d, %d", s, n, minute, err)
					}
					z := api.Zone{Base: b, Shift: a}
					if at, err := Moment(z, s, n); err != api.OK && at != 0 {
						t.Errorf("Moment(%v, %v, %d) = %d, %d", z, s, n, at, err)
					}
				}
			}
		}
	}
}

func TestMinutesOfAnyNumberOfMonths(t *testing.T) {
	s := chapter()
	for _, x := range []struct{ months, want []int }{
		{nil, nil}, {[]int{1}, []int{1000}}, {[]int{12, 13}, []int{990, 1000}}, {[]int{6, 7, 6}, []int{1200, 1170, 1200}},
		{[]int{1, 2, 3, 4, 5, 6, 7, 8, 9, 10, 11, 12}, s[:]},
	} {
		if got := minutesOf(s, x.months...); !slices.Equal(got, x.want) {
			t.Errorf("minutesOf(%v) = %v, want %v", x.months, got, x.want)
		}
	}
}
