package zone

import (
	"runtime"
	"slices"
	"sync"
	"testing"
	"time"

	"newel/api"
)

// The two days of the chapter's example: those of the turns of 2023 in the zone north.
const (
	onDay  = 738605 // March 26, 2023
	offDay = 738822 // October 29, 2023
)

// north is the chapter's zone: shifted in the middle of the year.
func north() api.Zone {
	return api.Zone{Base: 60, Shift: 60, On: api.Turn{Month: 3, Week: 5, Minute: 120}, Off: api.Turn{Month: 10, Week: 5, Minute: 120}}
}

// south is shifted over the turn of the year.
func south() api.Zone {
	return api.Zone{Base: 630, Shift: 30, On: api.Turn{Month: 10, Week: 1, Minute: 120}, Off: api.Turn{Month: 4, Week: 1, Minute: 90}}
}

// west is behind: Base is below 0, and the second Sunday and the first one are its turns.
func west() api.Zone {
	return api.Zone{Base: -300, Shift: 60, On: api.Turn{Month: 3, Week: 2, Minute: 120}, Off: api.Turn{Month: 11, Week: 1, Minute: 60}}
}

// zones are many that may be, with what lies at the bounds among them.
func zones() []api.Zone {
	list := []api.Zone{
		north(), south(), west(), {}, {Base: -720}, {Base: 840}, {Base: 345},
		{Base: -720, Shift: 120, On: api.Turn{Month: 1, Week: 1}, Off: api.Turn{Month: 11, Week: 5, Weekday: 6, Minute: 1439}},
		{Base: 840, Shift: 120, On: api.Turn{Month: 12, Week: 5, Weekday: 6, Minute: 1439}, Off: api.Turn{Month: 2, Week: 5, Weekday: 1}},
		{Base: 840, Shift: 1, On: api.Turn{Month: 3, Week: 5, Weekday: 3, Minute: 1439}, Off: api.Turn{Month: 1, Week: 1, Weekday: 4}},
		{Base: -720, Shift: 1, On: api.Turn{Month: 2, Week: 4, Weekday: 2}, Off: api.Turn{Month: 12, Week: 5, Weekday: 5, Minute: 1439}},
		{Base: 0, Shift: 120, On: api.Turn{Month: 12, Week: 5, Weekday: 0, Minute: 1439}, Off: api.Turn{Month: 10, Week: 3, Weekday: 5, Minute: 1400}},
	}
	// The first week's turns are at the very beginning of some year, and the last week's at the very end of another one.
	for weekday := range 7 {
		list = append(list,
			api.Zone{Base: 60*weekday - 200, Shift: 15 * (weekday + 1), On: api.Turn{Month: 1, Week: 1, Weekday: weekday}, Off: api.Turn{Month: 7, Week: weekday%5 + 1, Weekday: 6 - weekday, Minute: 200 * weekday}},
			api.Zone{Base: 200 - 60*weekday, Shift: 17*weekday + 1, On: api.Turn{Month: 6, Week: weekday%5 + 1, Weekday: 6 - weekday, Minute: 1439}, Off: api.Turn{Month: 12, Week: 5, Weekday: weekday, Minute: 1439}},
			api.Zone{Base: 100 * weekday, Shift: 120, On: api.Turn{Month: 12, Week: 5, Weekday: weekday, Minute: 1439 - weekday}, Off: api.Turn{Month: 2 + weekday, Week: 5, Weekday: weekday, Minute: weekday}},
			api.Zone{Base: -100 * weekday, Shift: 60, On: api.Turn{Month: 3 + weekday, Week: 4, Weekday: weekday, Minute: 700}, Off: api.Turn{Month: 1, Week: 1, Weekday: weekday}},
		)
	}
	return list
}

// number is a civil day's number, by the library's calendar.
func number(year int, month time.Month, day int) int {
	const beginning = -62135596800 // of the day 1, in the library's seconds
	return int((time.Date(year, month, day, 0, 0, 0, 0, time.UTC).Unix()-beginning)/86400) + 1
}

// turnDay is the day of a turn, found by going through its month, day by day.
func turnDay(u api.Turn, year int) int {
	found, nth := 0, 0
	for d := time.Date(year, time.Month(u.Month), 1, 0, 0, 0, 0, time.UTC); d.Month() == time.Month(u.Month); d = d.AddDate(0, 0, 1) {
		if d.Weekday() != time.Weekday(u.Weekday) {
			continue
		}
		nth++
		if nth <= u.Week {
			found = number(year, d.Month(), d.Day())
		}
	}
	return found
}

// setting is an instant at which clocks are set, on or back.
type setting struct {
	t  int
	on bool
}

// settings are those of a zone in some years, in their order.
func settings(z api.Zone, from, to int) []setting {
	if z.Shift == 0 {
		return nil
	}
	var list []setting
	for year := from; year <= to; year++ {
		list = append(list,
			setting{turnDay(z.On, year)*1440 + z.On.Minute - z.Base, true},
			setting{turnDay(z.Off, year)*1440 + z.Off.Minute - z.Base, false})
	}
	slices.SortFunc(list, func(a, b setting) int { return a.t - b.t })
	return list
}

// lastSet is whether clocks are shifted, by the last setting that is not behind the instant: no year is asked for.
func lastSet(list []setting, t int) bool {
	on := false
	for _, s := range list {
		if s.t <= t {
			on = s.on
		}
	}
	return on
}

// told is what clocks tell, as minutes from the beginning of the day 0.
func told(z api.Zone, list []setting, t int) int {
	if lastSet(list, t) {
		return t + z.Base + z.Shift
	}
	return t + z.Base
}

// wantAt holds Summer and Local to what they must answer at an instant.
func wantAt(t *testing.T, z api.Zone, at, day, minute int, summer bool) {
	t.Helper()
	if got, err := Summer(z, at); got != summer || err != api.OK {
		t.Errorf("Summer(%v, %d) = %v, %d, want %v", z, at, got, err, summer)
	}
	if d, m, err := Local(z, at); d != day || m != minute || err != api.OK {
		t.Errorf("Local(%v, %d) = %d, %d, %d, want %d, %d", z, at, d, m, err, day, minute)
	}
}

// wantRefused holds Summer and Local to an error, with noughts.
func wantRefused(t *testing.T, z api.Zone, at int, want api.Errno) {
	t.Helper()
	if got, err := Summer(z, at); got || err != want {
		t.Errorf("Summer(%v, %d) = %v, %d, want error %d", z, at, got, err, want)
	}
	if d, m, err := Local(z, at); d != 0 || m != 0 || err != want {
		t.Errorf("Local(%v, %d) = %d, %d, %d, want error %d", z, at, d, m, err, want)
	}
}

// wantInstants holds Instants to a list and an error.
func wantInstants(t *testing.T, z api.Zone, day, minute int, want []int, wantErr api.Errno) {
	t.Helper()
	if got, err := Instants(z, day, minute); !slices.Equal(got, want) || err != wantErr {
		t.Errorf("Instants(%v, %d, %d) = %v, %d, want %v, %d", z, day, minute, got, err, want, wantErr)
	}
}

// wantCheck holds Check to an error, and all other calls too: a zone that may not be is told first, whatever else is wrong.
func wantCheck(t *testing.T, z api.Zone, want api.Errno) {
	t.Helper()
	if err := Check(z); err != want {
		t.Errorf("Check(%v) = %d, want %d", z, err, want)
	}
	if want == api.OK {
		if _, err := Summer(z, onDay*1440); err != api.OK {
			t.Errorf("Summer of %v: error %d", z, err)
		}
		return
	}
	for _, at := range []int{onDay * 1440, 0, api.MinInt, api.MaxInt} {
		wantRefused(t, z, at, want)
	}
	for _, day := range []int{onDay, 0, api.MinInt, api.MaxInt} {
		wantInstants(t, z, day, 0, nil, want)
		wantInstants(t, z, day, -1, nil, want)
	}
}

// fields are the four numbers of a turn.
func fields(u *api.Turn) []*int {
	return []*int{&u.Month, &u.Week, &u.Weekday, &u.Minute}
}

// turnsOf are the two turns of a zone.
func turnsOf(z *api.Zone) []*api.Turn {
	return []*api.Turn{&z.On, &z.Off}
}

func TestP6_1CheckBaseAndShift(t *testing.T) {
	for _, x := range []struct {
		base int
		want api.Errno
	}{
		{-720, api.OK}, {-719, api.OK}, {-1, api.OK}, {0, api.OK}, {839, api.OK}, {840, api.OK},
		{-721, api.ErrZoneBase}, {841, api.ErrZoneBase}, {-840, api.ErrZoneBase}, {-1 << 32, api.ErrZoneBase}, {1<<32 + 60, api.ErrZoneBase},
		{api.MinInt, api.ErrZoneBase}, {api.MaxInt, api.ErrZoneBase},
	} {
		z := north()
		z.Base = x.base
		wantCheck(t, z, x.want)
		wantCheck(t, api.Zone{Base: x.base}, x.want)
	}
	for _, x := range []struct {
		shift int
		want  api.Errno
	}{
		{1, api.OK}, {2, api.OK}, {119, api.OK}, {120, api.OK},
		{-1, api.ErrZoneShift}, {121, api.ErrZoneShift}, {-60, api.ErrZoneShift}, {-120, api.ErrZoneShift}, {1<<32 + 60, api.ErrZoneShift},
		{api.MinInt, api.ErrZoneShift}, {api.MaxInt, api.ErrZoneShift},
	} {
		z := north()
		z.Shift = x.shift
		wantCheck(t, z, x.want)
	}
	for _, shift := range []int{-1, 121, api.MinInt, api.MaxInt} {
		wantCheck(t, api.Zone{Shift: shift}, api.ErrZoneShift)
	}
}

func TestP6_1CheckTurns(t *testing.T) {
	bounds := [4][2]int{{1, 12}, {1, 5}, {0, 6}, {0, 1439}} // of Month, Week, Weekday and Minute
	for turn := range 2 {
		for field, b := range bounds {
			for _, n := range []int{b[0], b[0] + 1, b[1] - 1, b[1], b[0] - 1, b[1] + 1, -b[1], 1<<32 + b[0], api.MinInt, api.MinInt + 1, api.MaxInt - 1, api.MaxInt} {
				z := north()
				z.On.Month, z.Off.Month = 5, 7
				if turn == 0 && n > 4 {
					z.Off.Month = 3
				}
				if turn == 1 && n > 5 {
					z.On.Month = 4
				}
				*fields(turnsOf(&z)[turn])[field] = n
				want := api.ErrZoneTurn
				if b[0] <= n && n <= b[1] {
					want = api.OK
				}
				wantCheck(t, z, want)
			}
		}
		z := north()
		*turnsOf(&z)[turn] = api.Turn{}
		wantCheck(t, z, api.ErrZoneTurn)
	}
	wantCheck(t, api.Zone{Shift: 60}, api.ErrZoneTurn)
}

func TestP6_1CheckTurnsWithoutAShift(t *testing.T) {
	for turn := range 2 {
		for field := range 4 {
			for _, n := range []int{1, 2, -1, 1439, api.MinInt, api.MaxInt} {
				z := api.Zone{Base: 60}
				wantCheck(t, z, api.OK)
				*fields(turnsOf(&z)[turn])[field] = n
				wantCheck(t, z, api.ErrZoneTurn)
			}
		}
	}
	for _, z := range []api.Zone{north(), south(), west()} {
		z.Shift = 0
		wantCheck(t, z, api.ErrZoneTurn)
		wantCheck(t, api.Zone{Base: z.Base, On: z.On}, api.ErrZoneTurn)
		wantCheck(t, api.Zone{Base: z.Base, Off: z.Off}, api.ErrZoneTurn)
	}
}

func TestP6_1CheckMonthsApart(t *testing.T) {
	for on := 1; on <= 12; on++ {
		for off := 1; off <= 12; off++ {
			apart := max(on, off) - min(on, off)
			want := api.OK
			if apart == 0 || apart == 1 || apart == 11 {
				want = api.ErrZoneTurn
			}
			z := north()
			z.On.Month, z.Off.Month = on, off
			wantCheck(t, z, want)
		}
	}
	// The months lie apart as 2 and 10 do, but are none; and two whose distance is no whole number.
	for _, months := range [][2]int{{0, 2}, {2, 0}, {12, 14}, {14, 12}, {-1, 1}, {13, 3}, {api.MinInt, api.MinInt + 3}, {api.MaxInt, api.MaxInt - 3}, {api.MinInt, api.MaxInt}, {api.MaxInt, api.MinInt}, {api.MinInt, 0}} {
		z := north()
		z.On.Month, z.Off.Month = months[0], months[1]
		wantCheck(t, z, api.ErrZoneTurn)
	}
}

func TestP6_1CheckTellsTheFirstThatDoesNotHold(t *testing.T) {
	for _, wrong := range []int{api.MinInt, -1000, 1500, api.MaxInt} {
		z := north()
		z.Base, z.Shift = wrong, wrong
		wantCheck(t, z, api.ErrZoneBase)
		z = north()
		z.Base, z.On.Week = wrong, wrong
		wantCheck(t, z, api.ErrZoneBase)
		z = north()
		z.Shift, z.Off.Minute = wrong, wrong
		wantCheck(t, z, api.ErrZoneShift)
		z.On = api.Turn{}
		wantCheck(t, z, api.ErrZoneShift)
		all := api.Turn{Month: wrong, Week: wrong, Weekday: wrong, Minute: wrong}
		wantCheck(t, api.Zone{Base: wrong, Shift: wrong, On: all, Off: all}, api.ErrZoneBase)
		wantCheck(t, api.Zone{Shift: wrong, On: all, Off: all}, api.ErrZoneShift)
		wantCheck(t, api.Zone{Shift: 1, On: all, Off: all}, api.ErrZoneTurn)
		wantCheck(t, api.Zone{On: all, Off: all}, api.ErrZoneTurn)
		wantCheck(t, api.Zone{Base: wrong, On: north().On}, api.ErrZoneBase)
	}
}

func TestZonesMayBe(t *testing.T) {
	for _, z := range zones() {
		wantCheck(t, z, api.OK)
	}
}

func TestP6_1P6_2AtTheTurns(t *testing.T) {
	const minutes = 1440
	for _, x := range []struct {
		z         api.Zone
		t         int
		day, told int // behind the turn
		summer    bool
	}{
		// As almanacs have them: of north and west in 2023, and of south in 2022 and 2023.
		{north(), onDay*minutes + 60, onDay, 180, true},
		{north(), offDay*minutes + 60, offDay, 120, false},
		{west(), number(2023, 3, 12)*minutes + 7*60, number(2023, 3, 12), 180, true},
		{west(), number(2023, 11, 5)*minutes + 6*60, number(2023, 11, 5), 60, false},
		{south(), number(2022, 10, 1)*minutes + 15*60 + 30, number(2022, 10, 2), 150, true},
		{south(), number(2023, 4, 1)*minutes + 15*60, number(2023, 4, 2), 90, false},
	} {
		wantAt(t, x.z, x.t, x.day, x.told, x.summer)
		wantAt(t, x.z, x.t+1, x.day, x.told+1, x.summer)
		before := x.told - 1 - x.z.Shift
		if !x.summer {
			before = x.told - 1 + x.z.Shift
		}
		wantAt(t, x.z, x.t-1, x.day, before, !x.summer)
	}
}

func TestP6_1P6_2WeeksOfAMonth(t *testing.T) {
	// February 2023 begins on a Wednesday and has four of each weekday; March 2023 has five Wednesdays to Fridays.
	for _, x := range []struct{ month, week, weekday, day int }{
		{2, 1, 3, 1}, {2, 1, 2, 7}, {2, 2, 3, 8}, {2, 3, 3, 15}, {2, 4, 3, 22}, {2, 5, 3, 22}, {2, 4, 2, 28}, {2, 5, 2, 28},
		{3, 1, 3, 1}, {3, 1, 2, 7}, {3, 2, 4, 9}, {3, 3, 6, 18}, {3, 4, 3, 22}, {3, 5, 3, 29}, {3, 4, 5, 24}, {3, 5, 5, 31}, {3, 4, 2, 28}, {3, 5, 2, 28}, {3, 5, 6, 25},
	} {
		turn := api.Turn{Month: x.month, Week: x.week, Weekday: x.weekday, Minute: 300}
		other := api.Turn{Month: 9, Week: 1, Minute: 0}
		on := api.Zone{Base: -60, Shift: 90, On: turn, Off: other}
		off := api.Zone{Base: -60, Shift: 90, On: other, Off: turn}
		day := number(2023, time.Month(x.month), x.day)
		at := day*1440 + 360
		wantAt(t, on, at-1, day, 299, false)
		wantAt(t, on, at, day, 390, true)
		wantAt(t, off, at-1, day, 389, true)
		wantAt(t, off, at, day, 300, false)
	}
}

func TestP6_1P6_2AtTheTurnOfAYear(t *testing.T) {
	newYear := number(2023, 1, 1) // a Sunday
	last := newYear - 1
	// Clocks are set in neither of these at the year's end: it goes by without a trace.
	for _, base := range []int{-720, -1, 0, 1, 840} {
		n, s := north(), south()
		n.Base, s.Base = base, base
		wantAt(t, n, newYear*1440-base-1, last, 1439, false)
		wantAt(t, n, newYear*1440-base, newYear, 0, false)
		wantAt(t, s, newYear*1440-base-31, last, 1439, true)
		wantAt(t, s, newYear*1440-base-30, newYear, 0, true)
		wantAt(t, s, newYear*1440-base-1, newYear, 29, true)
		wantAt(t, s, newYear*1440-base, newYear, 30, true)
	}
	// In these they are, at the very first minute, and at the very last one.
	first := api.Turn{Month: 1, Week: 1}
	end := api.Turn{Month: 12, Week: 5, Weekday: 6, Minute: 1439}
	middle := api.Turn{Month: 6, Week: 3, Weekday: 2, Minute: 1}
	for _, base := range []int{-720, 0, 840} {
		at := newYear*1440 - base
		z := api.Zone{Base: base, Shift: 120, On: first, Off: middle}
		wantAt(t, z, at-1, last, 1439, false)
		wantAt(t, z, at, newYear, 120, true)
		z.On, z.Off = middle, first
		wantAt(t, z, at-1, newYear, 119, true)
		wantAt(t, z, at, newYear, 0, false)
		z.On, z.Off = end, middle
		wantAt(t, z, at-2, last, 1438, false)
		wantAt(t, z, at-1, newYear, 119, true)
		wantAt(t, z, at, newYear, 120, true)
		z.On, z.Off = middle, end
		wantAt(t, z, at-2, newYear, 118, true)
		wantAt(t, z, at-1, last, 1439, false)
		wantAt(t, z, at, newYear, 0, false)
	}
}

func TestP6_1P6_2WithoutAShift(t *testing.T) {
	for _, base := range []int{-720, -719, -1, 0, 1, 345, 840} {
		z := api.Zone{Base: base}
		for _, day := range []int{401, onDay, offDay, number(2023, 1, 1), number(2024, 7, 1), 3651998} {
			wantAt(t, z, day*1440-base-1, day-1, 1439, false)
			wantAt(t, z, day*1440-base, day, 0, false)
			wantAt(t, z, day*1440-base+719, day, 719, false)
		}
	}
}

func TestP6_1P6_2FirstAndLastInstants(t *testing.T) {
	const first, last = 576000, 5258879999
	wantAt(t, api.Zone{}, first, 400, 0, false)
	wantAt(t, api.Zone{Base: -720}, first, 399, 720, false)
	wantAt(t, api.Zone{Base: 840}, first, 400, 840, false)
	wantAt(t, api.Zone{}, last, 3651999, 1439, false)
	wantAt(t, api.Zone{Base: -720}, last, 3651999, 719, false)
	wantAt(t, api.Zone{Base: 840}, last, 3652000, 839, false)
	wantAt(t, north(), first, 400, 60, false)
	wantAt(t, north(), last, 3652000, 59, false)
	wantAt(t, south(), first, 400, 660, true)
	wantAt(t, south(), last, 3652000, 659, true)
	for _, z := range zones() {
		for _, at := range []int{first, first + 1, last - 1, last} {
			if _, err := Summer(z, at); err != api.OK {
				t.Errorf("Summer(%v, %d): error %d", z, at, err)
			}
			if d, _, err := Local(z, at); d < 399 || d > 3652000 || err != api.OK {
				t.Errorf("Local(%v, %d) = %d, error %d", z, at, d, err)
			}
		}
		for _, at := range []int{first - 1, first - 2, last + 1, last + 2, 0, 1, -1, -first, -last, 400, 1<<33 + first, -1 << 32, api.MinInt, api.MinInt + 1, api.MinInt + 720, api.MaxInt - 960, api.MaxInt - 1, api.MaxInt} {
			wantRefused(t, z, at, api.ErrZoneTime)
		}
	}
}

func TestP6_2EachTurnOfManyYears(t *testing.T) {
	for _, z := range zones() {
		list := settings(z, 1990, 2032)
		for _, s := range list {
			if s.t < number(1991, 1, 1)*1440 {
				continue
			}
			for at := s.t - 3; at <= s.t+3; at++ {
				minutes := told(z, list, at)
				wantAt(t, z, at, minutes/1440, minutes%1440, lastSet(list, at))
			}
			if got, _ := Summer(z, s.t); got != s.on {
				t.Errorf("Summer(%v, %d) = %v at a turn", z, s.t, got)
			}
			if got, _ := Summer(z, s.t-1); got == s.on {
				t.Errorf("Summer(%v, %d) = %v ahead of a turn", z, s.t-1, got)
			}
		}
	}
}

func TestP6_3NeverOnceTwice(t *testing.T) {
	z := north()
	wantInstants(t, z, onDay, 0, []int{onDay*1440 - 60}, api.OK)
	wantInstants(t, z, onDay, 118, []int{onDay*1440 + 58}, api.OK)
	wantInstants(t, z, onDay, 119, []int{onDay*1440 + 59}, api.OK)
	for minute := 120; minute < 180; minute++ {
		wantInstants(t, z, onDay, minute, nil, api.OK)
	}
	wantInstants(t, z, onDay, 180, []int{onDay*1440 + 60}, api.OK)
	wantInstants(t, z, onDay, 181, []int{onDay*1440 + 61}, api.OK)
	wantInstants(t, z, onDay, 1439, []int{onDay*1440 + 1319}, api.OK)

	wantInstants(t, z, offDay, 0, []int{offDay*1440 - 120}, api.OK)
	wantInstants(t, z, offDay, 119, []int{offDay*1440 - 1}, api.OK)
	for minute := 120; minute < 180; minute++ {
		wantInstants(t, z, offDay, minute, []int{offDay*1440 + minute - 120, offDay*1440 + minute - 60}, api.OK)
	}
	wantInstants(t, z, offDay, 180, []int{offDay*1440 + 120}, api.OK)
	wantInstants(t, z, offDay, 1439, []int{offDay*1440 + 1379}, api.OK)
}

func TestP6_3TheOtherHalfOfTheEarth(t *testing.T) {
	z := south()
	on, off := number(2022, 10, 2), number(2023, 4, 2)
	for _, x := range []struct {
		day, minute int
		want        []int
	}{
		{on, 119, []int{on*1440 + 119 - 630}}, {on, 120, nil}, {on, 149, nil}, {on, 150, []int{on*1440 + 120 - 630}},
		{off, 89, []int{off*1440 + 59 - 630}}, {off, 90, []int{off*1440 + 60 - 630, off*1440 + 90 - 630}}, {off, 119, []int{off*1440 + 89 - 630, off*1440 + 119 - 630}}, {off, 120, []int{off*1440 + 120 - 630}},
		{number(2023, 1, 1), 0, []int{number(2023, 1, 1)*1440 - 660}}, {number(2023, 7, 1), 0, []int{number(2023, 7, 1)*1440 - 630}},
	} {
		wantInstants(t, z, x.day, x.minute, x.want, api.OK)
	}
}

func TestP6_3OverMidnight(t *testing.T) {
	// Of 2023 the first Wednesday of March is its first day, and the last Tuesday of October its last one.
	z := api.Zone{Base: -720, Shift: 120, On: api.Turn{Month: 3, Week: 1, Weekday: 3, Minute: 1380}, Off: api.Turn{Month: 10, Week: 5, Weekday: 2}}
	on, off := number(2023, 3, 1), number(2023, 10, 31)
	wantInstants(t, z, on, 1379, []int{on*1440 + 1379 + 720}, api.OK)
	wantInstants(t, z, on, 1380, nil, api.OK)
	wantInstants(t, z, on, 1439, nil, api.OK)
	wantInstants(t, z, on+1, 0, nil, api.OK)
	wantInstants(t, z, on+1, 59, nil, api.OK)
	wantInstants(t, z, on+1, 60, []int{on*1440 + 1380 + 720}, api.OK)
	wantInstants(t, z, off-1, 1439, []int{off*1440 - 1 - 120 + 720}, api.OK)
	wantInstants(t, z, off, 0, []int{off*1440 - 120 + 720, off*1440 + 720}, api.OK)
	wantInstants(t, z, off, 119, []int{off*1440 - 1 + 720, off*1440 + 119 + 720}, api.OK)
	wantInstants(t, z, off, 120, []int{off*1440 + 120 + 720}, api.OK)
}

func TestP6_3WithoutAShift(t *testing.T) {
	for _, base := range []int{-720, -1, 0, 60, 840} {
		for _, day := range []int{401, onDay, offDay, number(2023, 1, 1), 3651998} {
			for minute := range 1440 {
				wantInstants(t, api.Zone{Base: base}, day, minute, []int{day*1440 + minute - base}, api.OK)
			}
		}
	}
}

func TestP6_3FirstAndLastDays(t *testing.T) {
	const first, last = 401, 3651998 // in February of the year 2, and at the end of October 9999
	for _, z := range zones() {
		early, late := settings(z, 1, 3), settings(z, 9998, 10000)
		for _, x := range []struct {
			day  int
			list []setting
		}{{first, early}, {last, late}} {
			for _, minute := range []int{0, 1, 719, 720, 1438, 1439} {
				wantInstants(t, z, x.day, minute, searched(z, x.list, x.day, minute), api.OK)
			}
			for _, minute := range []int{-1, -2, 1440, 1441, -1440, 1 << 32, api.MinInt, api.MaxInt} {
				wantInstants(t, z, x.day, minute, nil, api.ErrZoneDay)
			}
		}
		for _, day := range []int{first - 1, first - 2, last + 1, last + 2, 0, 1, -1, -onDay, 3652000, 3652059, 1<<32 + onDay, -1 << 32, api.MinInt, api.MinInt / 1440, api.MaxInt / 1440, api.MaxInt} {
			for _, minute := range []int{0, 720, 1439, -1, 1440, api.MinInt, api.MaxInt} {
				wantInstants(t, z, day, minute, nil, api.ErrZoneDay)
			}
		}
	}
	wantInstants(t, north(), first, 0, []int{first*1440 - 60}, api.OK)
	wantInstants(t, north(), last, 1439, []int{last*1440 + 1439 - 60}, api.OK)
	wantInstants(t, south(), first, 0, []int{first*1440 - 660}, api.OK)
	wantInstants(t, south(), last, 1439, []int{last*1440 + 1439 - 660}, api.OK)
}

// searched is the instants at which clocks tell a minute, found by asking all about it.
func searched(z api.Zone, list []setting, day, minute int) []int {
	var found []int
	want := day*1440 + minute
	for at := want - 1000; at <= want+1000; at++ {
		if told(z, list, at) == want {
			found = append(found, at)
		}
	}
	return found
}

func TestP6_3AboutTheTurns(t *testing.T) {
	for _, z := range zones() {
		list := settings(z, 2018, 2025)
		for _, s := range list[min(2, len(list)):] {
			about := s.t + z.Base
			for _, minutes := range []int{about - 121, about - 120, about - z.Shift - 1, about - z.Shift, about - 1, about, about + 1, about + z.Shift/2, about + z.Shift - 1, about + z.Shift, about + 121, about + 241} {
				day, minute := minutes/1440, minutes%1440
				wantInstants(t, z, day, minute, searched(z, list, day, minute), api.OK)
			}
		}
	}
}

func TestP6_3ListsAreNew(t *testing.T) {
	list, _ := Instants(north(), offDay, 150)
	other, _ := Instants(north(), offDay, 150)
	list = append(list, 1, 2, 3)
	for i := range list {
		list[i] = -1
	}
	want := []int{offDay*1440 + 30, offDay*1440 + 90}
	if !slices.Equal(other, want) {
		t.Errorf("a list that was handed out earlier became %v", other)
	}
	wantInstants(t, north(), offDay, 150, want, api.OK)
}

// wantFollows holds an instant to what must follow of all promises: it is one of those that its reading has.
func wantFollows(t *testing.T, z api.Zone, at int) {
	day, minute, err := Local(z, at)
	if err != api.OK || minute < 0 || minute > 1439 {
		t.Errorf("Local(%v, %d) = %d, %d, %d", z, at, day, minute, err)
		return
	}
	if day < 401 || day > 3651998 {
		return
	}
	list, err := Instants(z, day, minute)
	if err != api.OK || !slices.Contains(list, at) {
		t.Errorf("Instants(%v, %d, %d) = %v, %d, without %d", z, day, minute, list, err, at)
	}
	if len(list) > 2 || z.Shift == 0 && len(list) != 1 || len(list) == 2 && list[1] != list[0]+z.Shift {
		t.Errorf("Instants(%v, %d, %d) = %v", z, day, minute, list)
	}
	for _, other := range list {
		if d, m, err := Local(z, other); d != day || m != minute || err != api.OK {
			t.Errorf("Local(%v, %d) = %d, %d, %d, want %d, %d", z, other, d, m, err, day, minute)
		}
	}
}

// wantGoesOn holds clocks to going on by one from an instant to the next, but where they are set.
func wantGoesOn(t *testing.T, z api.Zone, at int) {
	day, minute, _ := Local(z, at)
	nextDay, nextMinute, _ := Local(z, at+1)
	now, _ := Summer(z, at)
	next, _ := Summer(z, at+1)
	step := 1
	if next && !now {
		step += z.Shift
	}
	if now && !next {
		step -= z.Shift
	}
	if (nextDay-day)*1440+nextMinute-minute != step {
		t.Errorf("%v: from %d clocks go on from %d, %d to %d, %d", z, at, day, minute, nextDay, nextMinute)
	}
}

// overZones does something for each of the zones, many at a time.
func overZones(do func(z api.Zone)) {
	var group sync.WaitGroup
	list, workers := zones(), runtime.NumCPU()
	for w := range workers {
		group.Go(func() {
			for i := w; i < len(list); i += workers {
				do(list[i])
			}
		})
	}
	group.Wait()
}

func TestP6_4FromMinuteToMinute(t *testing.T) {
	overZones(func(z api.Zone) {
		list := settings(z, 2021, 2025)
		from, to := number(2022, 12, 31)*1440-1000, number(2024, 1, 2)*1440
		sets := 0
		for at := from; at < to && !t.Failed(); at++ {
			wantGoesOn(t, z, at)
			now, _ := Summer(z, at)
			next, _ := Summer(z, at+1)
			set := slices.ContainsFunc(list, func(s setting) bool { return s.t == at+1 })
			if set != (now != next) {
				t.Errorf("%v: set at %d: %v, shifted %v, then %v", z, at+1, set, now, next)
			}
			if set {
				sets++
			}
		}
		if !t.Failed() && (z.Shift > 0 && sets < 2 || z.Shift == 0 && sets != 0) {
			t.Errorf("%v: clocks are set %d times in a year", z, sets)
		}
	})
}

func TestP6_4OverAllTime(t *testing.T) {
	overZones(func(z api.Zone) {
		for at := api.MinTime; at < api.MaxTime && !t.Failed(); at += 100003 {
			wantFollows(t, z, at)
			wantGoesOn(t, z, at)
		}
		for year := 3; year <= 9998 && !t.Failed(); year += 7 {
			for _, s := range settings(z, year, year) {
				for _, at := range []int{s.t - 121, s.t - z.Shift - 1, s.t - z.Shift, s.t - 1, s.t, s.t + z.Shift - 1, s.t + z.Shift, s.t + 121} {
					wantFollows(t, z, at)
					wantGoesOn(t, z, at)
				}
				if before, _ := Summer(z, s.t-1); before == s.on {
					t.Errorf("%v: shifted %v ahead of the turn at %d", z, before, s.t)
				}
				if behind, _ := Summer(z, s.t); behind != s.on {
					t.Errorf("%v: shifted %v at the turn %d", z, behind, s.t)
				}
			}
		}
	})
}

func TestP6_4HowManyMinutesAreTold(t *testing.T) {
	// Of the minutes about the two turns as many are told never, or twice, as the shift has.
	overZones(func(z api.Zone) {
		if z.Shift == 0 {
			return
		}
		for _, s := range settings(z, 2023, 2023) {
			times := [3]int{}
			for minutes := s.t + z.Base - 300; minutes < s.t+z.Base+300; minutes++ {
				list, err := Instants(z, minutes/1440, minutes%1440)
				if err != api.OK || len(list) > 2 || !slices.IsSorted(list) {
					t.Errorf("Instants(%v, %d, %d) = %v, %d", z, minutes/1440, minutes%1440, list, err)
					return
				}
				times[len(list)]++
			}
			want := [3]int{0, 600 - z.Shift, z.Shift}
			if s.on {
				want = [3]int{z.Shift, 600 - z.Shift, 0}
			}
			if times != want {
				t.Errorf("%v: about the turn at %d minutes are told %v times, want %v", z, s.t, times, want)
			}
		}
	})
}

func TestExample(t *testing.T) {
	z := api.Zone{Base: 60, Shift: 60, On: api.Turn{Month: 3, Week: 5, Weekday: 0, Minute: 120}, Off: api.Turn{Month: 10, Week: 5, Weekday: 0, Minute: 120}}
	for minute := range 1440 {
		never, err := Instants(z, 738605, minute)
		twice, err2 := Instants(z, 738822, minute)
		wantNever, wantTwice := 1, 1
		if minute >= 120 && minute <= 179 {
			wantNever, wantTwice = 0, 2
		}
		if len(never) != wantNever || len(twice) != wantTwice || err != api.OK || err2 != api.OK {
			t.Errorf("minute %d: %v, %d on the day 738605, %v, %d on 738822", minute, never, err, twice, err2)
		}
	}
}
