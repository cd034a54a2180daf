package window

import (
	"reflect"
	"runtime"
	"slices"
	"sync"
	"testing"
	"time"

	"newel/api"
	"newel/config"
	"newel/feast"
	"newel/greg"
	"newel/sunset"
	"newel/zone"
)

// The first and the last day that may be asked.
const (
	early = 402
	late  = 3651990
)

// The two days of 2023 on which the clocks of the zone north are set.
const (
	onDay  = 738605 // March 26
	offDay = 738822 // October 29
)

// The last day that has a Hebrew date: the one behind it would be a New Year.
const lastHebrew = 2278650

// chance makes a row of numbers without an order, the same one from each beginning.
func chance(seed uint64) func(below int) int {
	return func(below int) int {
		seed = seed*6364136223846793005 + 1442695040888963407
		return int((seed ^ seed>>29) >> 16 % uint64(below))
	}
}

// north is shifted in the middle of the year.
func north() api.Zone {
	return api.Zone{Base: 60, Shift: 60, On: api.Turn{Month: 3, Week: 5, Minute: 120}, Off: api.Turn{Month: 10, Week: 5, Minute: 120}}
}

// south is shifted over the turn of the year, by half an hour.
func south() api.Zone {
	return api.Zone{Base: 630, Shift: 30, On: api.Turn{Month: 10, Week: 1, Minute: 120}, Off: api.Turn{Month: 4, Week: 1, Minute: 90}}
}

// west is behind: Base is below 0.
func west() api.Zone {
	return api.Zone{Base: -300, Shift: 60, On: api.Turn{Month: 3, Week: 2, Minute: 120}, Off: api.Turn{Month: 11, Week: 1, Minute: 60}}
}

// midnight is a zone whose clocks skip the last hour of a Wednesday and the first one of the Thursday behind it, and tell the first two hours of a Tuesday twice.
func midnight() api.Zone {
	return api.Zone{Base: -720, Shift: 120, On: api.Turn{Month: 3, Week: 1, Weekday: 3, Minute: 1380}, Off: api.Turn{Month: 10, Week: 5, Weekday: 2}}
}

// zones are many that may be, with what lies at the bounds among them: turns at the beginning and at the end of days, months and years.
func zones() []api.Zone {
	list := []api.Zone{
		{}, {Base: -720}, {Base: 840}, {Base: 345}, {Base: -1}, north(), south(), west(), midnight(),
		{Base: -720, Shift: 120, On: api.Turn{Month: 1, Week: 1}, Off: api.Turn{Month: 11, Week: 5, Weekday: 6, Minute: 1439}},
		{Base: 840, Shift: 120, On: api.Turn{Month: 12, Week: 5, Weekday: 6, Minute: 1439}, Off: api.Turn{Month: 2, Week: 5, Weekday: 1}},
		{Base: 840, Shift: 1, On: api.Turn{Month: 3, Week: 5, Weekday: 3, Minute: 1439}, Off: api.Turn{Month: 1, Week: 1, Weekday: 4}},
		{Base: -720, Shift: 1, On: api.Turn{Month: 2, Week: 4, Weekday: 2}, Off: api.Turn{Month: 12, Week: 5, Weekday: 5, Minute: 1439}},
		{Base: 0, Shift: 120, On: api.Turn{Month: 12, Week: 5, Weekday: 0, Minute: 1439}, Off: api.Turn{Month: 10, Week: 3, Weekday: 5, Minute: 1400}},
		{Base: 840, Shift: 120, On: api.Turn{Month: 5, Week: 2, Weekday: 5, Minute: 1320}, Off: api.Turn{Month: 9, Week: 2, Weekday: 5, Minute: 1320}},
		{Base: -720, Shift: 120, On: api.Turn{Month: 9, Week: 2, Weekday: 5, Minute: 1319}, Off: api.Turn{Month: 5, Week: 2, Weekday: 5, Minute: 1439}},
	}
	for weekday := range 7 {
		list = append(list,
			api.Zone{Base: 60*weekday - 200, Shift: 15 * (weekday + 1), On: api.Turn{Month: 1, Week: 1, Weekday: weekday}, Off: api.Turn{Month: 7, Week: weekday%5 + 1, Weekday: 6 - weekday, Minute: 200 * weekday}},
			api.Zone{Base: 200 - 60*weekday, Shift: 17*weekday + 1, On: api.Turn{Month: 6, Week: weekday%5 + 1, Weekday: 6 - weekday, Minute: 1439}, Off: api.Turn{Month: 12, Week: 5, Weekday: weekday, Minute: 1439}},
			api.Zone{Base: 100 * weekday, Shift: 120, On: api.Turn{Month: 12, Week: 5, Weekday: weekday, Minute: 1439 - weekday}, Off: api.Turn{Month: 2 + weekday, Week: 5, Weekday: weekday, Minute: weekday}},
			api.Zone{Base: -100 * weekday, Shift: 60, On: api.Turn{Month: 3 + weekday, Week: 4, Weekday: weekday, Minute: 700}, Off: api.Turn{Month: 1, Week: 1, Weekday: weekday}},
		)
	}
	return list
}

// wrongZones are zones that may not be, each with its error.
func wrongZones() map[api.Zone]api.Errno {
	list := map[api.Zone]api.Errno{
		{Base: -721}: api.ErrZoneBase, {Base: 841}: api.ErrZoneBase, {Base: api.MinInt}: api.ErrZoneBase, {Base: api.MaxInt}: api.ErrZoneBase,
		{Base: 900, Shift: 121}: api.ErrZoneBase,
		{Shift: -1}:             api.ErrZoneShift, {Shift: 121}: api.ErrZoneShift, {Shift: api.MinInt}: api.ErrZoneShift, {Shift: api.MaxInt}: api.ErrZoneShift,
		{Shift: 60}: api.ErrZoneTurn, {On: api.Turn{Week: 1}}: api.ErrZoneTurn, {Off: api.Turn{Minute: api.MinInt}}: api.ErrZoneTurn,
	}
	z := north()
	z.Off.Month = 4
	list[z] = api.ErrZoneTurn
	z = north()
	z.On.Minute = 1440
	list[z] = api.ErrZoneTurn
	return list
}

// wrongDays are days that may not be asked.
func wrongDays() []int {
	return []int{
		early - 1, early - 2, 1, 0, -1, -early, -onDay, late + 1, late + 2, 3651998, 3651999, api.MaxDay, api.MaxDay + 1, 1<<32 + onDay, -1<<32 + onDay,
		api.MinInt, api.MinInt + 1, api.MinInt / 1440, api.MaxInt / 1440, api.MaxInt - 1, api.MaxInt,
	}
}

// wrongMinutes are minutes that no day has.
func wrongMinutes() []int {
	return []int{-1, -2, -60, -1440, 1440, 1441, 2880, 1 << 32, 1<<32 + 60, -1 << 32, api.MinInt, api.MinInt + 1, api.MaxInt - 1, api.MaxInt}
}

// chapterSun is the table of chapter 7's example.
func chapterSun() api.Sun {
	return api.Sun{1000, 1050, 1100, 1150, 1180, 1200, 1170, 1130, 1080, 1030, 1000, 990}
}

// flat is a table of one minute.
func flat(minute int) api.Sun {
	var s api.Sun
	for i := range s {
		s[i] = minute
	}
	return s
}

// house is a configuration that may be, of a zone, without windows.
func house(z api.Zone) api.Config {
	return api.Config{
		Floors: 10, Cars: 3, Park: 4, Stops: []int{1, 4, 8},
		Times: api.Times{Travel: 5, Level: 2, Open: 3, Dwell: 20, Lead: 6, Close: 4, Hold: 30},
		Rest:  40, Pater: 10, Zone: z, Sun: chapterSun(),
	}
}

// abroad is a configuration outside of Israel.
func abroad(c api.Config) api.Config {
	c.Abroad = true
	return c
}

// sunny is a configuration under another sun.
func sunny(c api.Config, s api.Sun) api.Config {
	c.Sun = s
	return c
}

// suns are tables of sunsets that may be.
func suns() []api.Sun {
	return []api.Sun{
		chapterSun(), flat(900), flat(1320),
		{1000, 1120, 1000, 1120, 1000, 1120, 1000, 1120, 1000, 1120, 1000, 1120},
		{900, 1020, 1140, 1260, 1320, 1320, 1320, 1260, 1140, 1020, 900, 900},
	}
}

// wrongHouses are configurations that may not be, each with its error.
func wrongHouses() []struct {
	c   api.Config
	err api.Errno
} {
	type wrong = struct {
		c   api.Config
		err api.Errno
	}
	var list []wrong
	add := func(err api.Errno, spoil func(c *api.Config)) {
		c := house(north())
		spoil(&c)
		list = append(list, wrong{c, err})
	}
	add(api.ErrConfigSize, func(c *api.Config) { *c = api.Config{} })
	add(api.ErrConfigSize, func(c *api.Config) { c.Floors = 65 })
	add(api.ErrConfigSize, func(c *api.Config) { c.Cars = 0 })
	add(api.ErrConfigSize, func(c *api.Config) { c.Park = api.MaxInt })
	add(api.ErrConfigStops, func(c *api.Config) { c.Stops = nil })
	add(api.ErrConfigStops, func(c *api.Config) { c.Stops = []int{4, 4} })
	add(api.ErrConfigTimes, func(c *api.Config) { c.Times.Lead = 0 })
	add(api.ErrConfigTimes, func(c *api.Config) { c.Rest = api.MinInt })
	for z, err := range wrongZones() {
		add(err, func(c *api.Config) { c.Zone = z })
	}
	add(api.ErrSunMinute, func(c *api.Config) { c.Sun[3] = 899 })
	add(api.ErrSunStep, func(c *api.Config) { c.Sun[5] = 1301 })
	add(api.ErrConfigMany, func(c *api.Config) {
		c.Windows = slices.Repeat([]api.Window{{Kind: api.WinRest}}, api.MaxWindows+1)
	})
	add(api.ErrConfigWindow, func(c *api.Config) { c.Windows = []api.Window{{Kind: api.WinRest}, {}} })
	add(api.ErrConfigSize, func(c *api.Config) {
		c.Floors, c.Stops, c.Zone, c.Windows = 1, nil, api.Zone{Base: 841}, make([]api.Window, 20)
	})
	return list
}

// wrongWindows are windows that may not be.
func wrongWindows() []api.Window {
	return []api.Window{
		{}, {Kind: 5, Len: 1}, {Kind: -1, Len: 1}, {Kind: api.MinInt, Len: 1}, {Kind: api.MaxInt, Len: 1},
		{Kind: 1, Arg: 0, Len: 1}, {Kind: 1, Arg: 128, Len: 1}, {Kind: 1, Arg: -1, Len: 1}, {Kind: 1, Arg: 1, Shift: 1, Len: 1}, {Kind: 1, Arg: 1, Minute: 1440, Len: 1}, {Kind: 1, Arg: 1, Minute: -1, Len: 1}, {Kind: 1, Arg: 1}, {Kind: 1, Arg: 1, Len: 10081},
		{Kind: 2, Arg: 400, Len: 1}, {Kind: 2, Arg: 3651999, Len: 1}, {Kind: 2, Arg: onDay, Shift: -1, Len: 1}, {Kind: 2, Arg: onDay, Minute: 1440, Len: 1}, {Kind: 2, Arg: onDay, Len: 0},
		{Kind: 3, Arg: 0, Len: 1}, {Kind: 3, Arg: 8, Len: 1}, {Kind: 3, Arg: 1, Shift: 8, Len: 1}, {Kind: 3, Arg: 1, Shift: -8, Len: 1}, {Kind: 3, Arg: 1, Minute: api.MaxInt, Len: 1}, {Kind: 3, Arg: 1, Len: api.MaxInt},
		{Kind: 4, Arg: 1}, {Kind: 4, Shift: 1}, {Kind: 4, Minute: 181}, {Kind: 4, Minute: -1}, {Kind: 4, Len: 181}, {Kind: 4, Len: -1},
		{Kind: 4, Mode: 6}, {Kind: 4, Mode: -1}, {Kind: 4, Prio: 100}, {Kind: 4, Prio: -1}, {Kind: 1, Mode: 6, Arg: 1, Len: 1}, {Kind: 2, Prio: 100, Arg: onDay, Len: 1}, {Kind: 3, Mode: -1, Arg: 1, Len: 1},
	}
}

// number is a civil day's number, by the library's calendar.
func number(year int, month time.Month, day int) int {
	const beginning = -62135596800 // of the day 1, in the library's seconds
	return int((time.Date(year, month, day, 0, 0, 0, 0, time.UTC).Unix()-beginning)/86400) + 1
}

// turnDays are the days about which a zone's clocks are set in some years, with their neighbours, and with the year's ends.
func turnDays(z api.Zone, from, to int) []int {
	var list []int
	for n := number(from, 1, 2); n <= number(to, 12, 31); n++ {
		before, _ := zone.Summer(z, n*1440-z.Base)
		behind, _ := zone.Summer(z, (n+1)*1440-z.Base)
		if before != behind {
			list = append(list, n-1, n, n+1)
		}
	}
	return append(list, number(from, 12, 31), number(to, 1, 1))
}

// moments is the moment of each minute of a day, by the chapter's words: what clocks tell is asked of all instants about it.
func moments(t *testing.T, z api.Zone, day int) []int {
	t.Helper()
	first := make([]int, 1440+300) // some minutes of the next day, too
	const none = api.MinInt
	for k := range first {
		first[k] = none
	}
	for at := day*1440 - 840 - 121; at < day*1440+len(first)+721; at++ {
		d, m, err := zone.Local(z, at)
		if err != api.OK {
			t.Fatalf("zone.Local(%v, %d): error %d", z, at, err)
		}
		if k := (d-day)*1440 + m; k >= 0 && k < len(first) && first[k] == none {
			first[k] = at
		}
	}
	for k := len(first) - 2; k >= 0; k-- {
		if first[k] == none {
			first[k] = first[k+1]
		}
	}
	return first[:1440]
}

// restDays is the last one of the days of rest that touch a day of rest, from that one on, found day by day.
func restDays(n int, abroad bool) int {
	for feast.Rest(n+1, abroad) {
		n++
	}
	return n
}

// sets is the instant at which the sun sets on a day, by unshifted time.
func sets(t *testing.T, c api.Config, n int) int {
	t.Helper()
	minute, err := sunset.At(c.Sun, n)
	if err != api.OK {
		t.Fatalf("sunset.At(%v, %d): error %d", c.Sun, n, err)
	}
	return n*1440 + minute - c.Zone.Base
}

// wanted is the span of a window that begins on a day, and whether one does, by the chapter's words.
func wanted(t *testing.T, c api.Config, w api.Window, day int) (api.Span, bool) {
	t.Helper()
	var begins bool
	switch w.Kind {
	case api.WinWeekly:
		begins = w.Arg/[]int{1, 2, 4, 8, 16, 32, 64}[day%7]%2 == 1
	case api.WinDated:
		begins = w.Arg == day
	case api.WinFeast:
		begins = feast.Kind(day-w.Shift, c.Abroad) == w.Arg
	case api.WinRest:
		if feast.Rest(day, c.Abroad) || !feast.Rest(day+1, c.Abroad) {
			return api.Span{}, false
		}
		return api.Span{From: sets(t, c, day) - w.Minute, To: sets(t, c, restDays(day+1, c.Abroad)) + w.Len, Mode: w.Mode, Prio: w.Prio}, true
	}
	if !begins {
		return api.Span{}, false
	}
	from := moments(t, c.Zone, day)[w.Minute]
	return api.Span{From: from, To: from + w.Len, Mode: w.Mode, Prio: w.Prio}, true
}

// wantMoment holds Moment to an instant.
func wantMoment(t *testing.T, z api.Zone, day, minute, want int) {
	t.Helper()
	if got, err := Moment(z, day, minute); got != want || err != api.OK {
		t.Fatalf("Moment(%v, %d, %d) = %d, %d, want %d", z, day, minute, got, err, want)
	}
}

// wantNoMoment holds Moment to an error, with 0.
func wantNoMoment(t *testing.T, z api.Zone, day, minute int, want api.Errno) {
	t.Helper()
	if got, err := Moment(z, day, minute); got != 0 || err != want {
		t.Fatalf("Moment(%v, %d, %d) = %d, %d, want 0, %d", z, day, minute, got, err, want)
	}
}

// wantSpan holds Span to a span that begins.
func wantSpan(t *testing.T, c api.Config, w api.Window, day, from, to int) {
	t.Helper()
	want := api.Span{From: from, To: to, Mode: w.Mode, Prio: w.Prio}
	if got, is, err := Span(c, w, day); got != want || !is || err != api.OK {
		t.Fatalf("Span(.., %v, %d) = %v, %v, %d, want %v, in the zone %v, abroad %v", w, day, got, is, err, want, c.Zone, c.Abroad)
	}
}

// wantNone holds Span to none that begins.
func wantNone(t *testing.T, c api.Config, w api.Window, day int) {
	t.Helper()
	wantRefused(t, c, w, day, api.OK)
}

// wantRefused holds Span to an error, with noughts.
func wantRefused(t *testing.T, c api.Config, w api.Window, day int, want api.Errno) {
	t.Helper()
	if got, is, err := Span(c, w, day); got != (api.Span{}) || is || err != want {
		t.Fatalf("Span(.., %v, %d) = %v, %v, %d, want none, and %d, in the zone %v, abroad %v", w, day, got, is, err, want, c.Zone, c.Abroad)
	}
}

// wantWords holds Span to the chapter's words, and answers whether a span begins.
func wantWords(t *testing.T, c api.Config, w api.Window, day int) bool {
	t.Helper()
	want, begins := wanted(t, c, w, day)
	if begins {
		wantSpan(t, c, w, day, want.From, want.To)
	} else {
		wantNone(t, c, w, day)
	}
	return begins
}

// overZones does something for each of the zones, many at a time, each as a test of its own.
func overZones(t *testing.T, do func(t *testing.T, z api.Zone)) {
	var group sync.WaitGroup
	list, workers := zones(), runtime.NumCPU()
	for w := range workers {
		group.Go(func() {
			for i := w; i < len(list); i += workers {
				t.Run("", func(t *testing.T) { do(t, list[i]) })
			}
		})
	}
	group.Wait()
}

func TestZonesAndHousesMayBe(t *testing.T) {
	for _, z := range zones() {
		for _, s := range suns() {
			if err := config.Check(sunny(house(z), s)); err != api.OK {
				t.Errorf("config.Check of the zone %v and the sun %v = %d", z, s, err)
			}
		}
	}
	for z, want := range wrongZones() {
		if err := zone.Check(z); err != want {
			t.Errorf("zone.Check(%v) = %d, want %d", z, err, want)
		}
	}
	for _, x := range wrongHouses() {
		if err := config.Check(x.c); err != x.err {
			t.Errorf("config.Check(%v) = %d, want %d", x.c, err, x.err)
		}
	}
	for _, w := range wrongWindows() {
		if err := config.Window(w); err != api.ErrConfigWindow {
			t.Errorf("config.Window(%v) = %d", w, err)
		}
	}
}

func TestP14_1OnceTwiceNever(t *testing.T) {
	z := north()
	for minute := range 1440 {
		on, off := onDay*1440+minute-60, offDay*1440+minute-120
		if minute >= 120 {
			on = onDay*1440 + max(minute, 180) - 120 // none is told from 120 to 179: 180 is
		}
		if minute >= 180 {
			off = offDay*1440 + minute - 60 // from 120 to 179 each is told twice: the first time counts
		}
		wantMoment(t, z, onDay, minute, on)
		wantMoment(t, z, offDay, minute, off)
		wantMoment(t, z, onDay-1, minute, (onDay-1)*1440+minute-60)
		wantMoment(t, z, onDay+1, minute, (onDay+1)*1440+minute-120)
		wantMoment(t, z, offDay-1, minute, (offDay-1)*1440+minute-120)
		wantMoment(t, z, offDay+1, minute, (offDay+1)*1440+minute-60)
	}
}

func TestP14_1TheOtherHalfOfTheEarth(t *testing.T) {
	on, off := number(2022, 10, 2), number(2023, 4, 2)
	for _, x := range []struct{ day, minute, want int }{
		{on, 0, on*1440 - 630}, {on, 119, on*1440 + 119 - 630}, {on, 120, on*1440 + 120 - 630}, {on, 121, on*1440 + 120 - 630}, {on, 149, on*1440 + 120 - 630}, {on, 150, on*1440 + 120 - 630}, {on, 151, on*1440 + 121 - 630},
		{off, 0, off*1440 - 660}, {off, 89, off*1440 + 89 - 660}, {off, 90, off*1440 + 90 - 660}, {off, 119, off*1440 + 119 - 660}, {off, 120, off*1440 + 120 - 630}, {off, 1439, off*1440 + 1439 - 630},
		{number(2023, 1, 1), 700, number(2023, 1, 1)*1440 + 700 - 660}, {number(2022, 12, 31), 1439, number(2022, 12, 31)*1440 + 1439 - 660}, {number(2023, 7, 1), 700, number(2023, 7, 1)*1440 + 700 - 630},
	} {
		wantMoment(t, south(), x.day, x.minute, x.want)
	}
}

func TestP14_1SkippedUpToTheNextDay(t *testing.T) {
	z := midnight()
	on, off := number(2023, 3, 1), number(2023, 10, 31)
	set := on*1440 + 1380 + 720
	wantMoment(t, z, on, 1379, set-1)
	for minute := 1380; minute < 1440; minute++ {
		wantMoment(t, z, on, minute, set) // which clocks tell as the minute 60 of the next day
	}
	for minute := range 61 {
		wantMoment(t, z, on+1, minute, set)
	}
	wantMoment(t, z, on+1, 61, set+1)
	wantMoment(t, z, off-1, 1439, off*1440-1-120+720)
	for minute := range 120 {
		wantMoment(t, z, off, minute, off*1440+minute-120+720)
	}
	wantMoment(t, z, off, 120, off*1440+120+720)

	// The day's last minute alone is skipped, or the next day's first minutes.
	last := api.Zone{Base: 60, Shift: 1, On: api.Turn{Month: 3, Week: 5, Minute: 1439}, Off: api.Turn{Month: 10, Week: 5, Minute: 120}}
	wantMoment(t, last, onDay, 1438, onDay*1440+1438-60)
	wantMoment(t, last, onDay, 1439, onDay*1440+1439-60)
	wantMoment(t, last, onDay+1, 0, onDay*1440+1439-60)
	wantMoment(t, last, onDay+1, 1, onDay*1440+1440-60)
	last.Shift = 90
	wantMoment(t, last, onDay, 1438, onDay*1440+1438-60)
	for _, x := range []struct{ day, minute int }{{onDay, 1439}, {onDay + 1, 0}, {onDay + 1, 44}, {onDay + 1, 88}, {onDay + 1, 89}} {
		wantMoment(t, last, x.day, x.minute, onDay*1440+1439-60)
	}
	wantMoment(t, last, onDay+1, 90, onDay*1440+1440-60)

	// All that is skipped is the beginning of a day.
	first := api.Zone{Base: 60, Shift: 120, On: api.Turn{Month: 3, Week: 5}, Off: api.Turn{Month: 10, Week: 5, Minute: 120}}
	wantMoment(t, first, onDay-1, 1439, onDay*1440-61)
	for _, minute := range []int{0, 1, 60, 119, 120} {
		wantMoment(t, first, onDay, minute, onDay*1440-60)
	}
	wantMoment(t, first, onDay, 121, onDay*1440-59)
}

func TestP14_1SkippedUpToTheNextYear(t *testing.T) {
	// The last Sunday of December 2023 is the last day of the year.
	z := api.Zone{Base: -60, Shift: 30, On: api.Turn{Month: 12, Week: 5, Minute: 1425}, Off: api.Turn{Month: 6, Week: 1, Minute: 0}}
	eve, day := number(2023, 12, 31), number(2024, 1, 1)
	set := eve*1440 + 1425 + 60
	wantMoment(t, z, eve, 1424, set-1)
	for _, x := range []struct{ day, minute int }{{eve, 1425}, {eve, 1426}, {eve, 1439}, {day, 0}, {day, 1}, {day, 14}, {day, 15}} {
		wantMoment(t, z, x.day, x.minute, set)
	}
	wantMoment(t, z, day, 16, set+1)
}

func TestP14_1ToldTwiceOverMidnight(t *testing.T) {
	// Set back at the first half hour of a Monday, to the last one of the Sunday: the Sunday's last half hour is told twice, and the Monday's first one, too.
	z := api.Zone{Base: 0, Shift: 60, On: api.Turn{Month: 3, Week: 5, Minute: 120}, Off: api.Turn{Month: 10, Week: 5, Minute: 1410}}
	wantMoment(t, z, offDay, 1409, offDay*1440+1409-60)
	for minute := 1410; minute < 1440; minute++ {
		wantMoment(t, z, offDay, minute, offDay*1440+minute-60)
	}
	for minute := range 30 {
		wantMoment(t, z, offDay+1, minute, (offDay+1)*1440+minute-60)
	}
	wantMoment(t, z, offDay+1, 30, (offDay+1)*1440+30)
	wantMoment(t, z, offDay+1, 1439, (offDay+1)*1440+1439)
}

func TestP14_1WithoutAShift(t *testing.T) {
	for _, base := range []int{-720, -719, -1, 0, 1, 60, 839, 840} {
		for _, day := range []int{early, early + 1, number(2023, 1, 1), onDay, offDay, lastHebrew, late - 1, late} {
			for minute := range 1440 {
				wantMoment(t, api.Zone{Base: base}, day, minute, day*1440+minute-base)
			}
		}
	}
}

func TestP14_1FirstAndLastDaysAndMinutes(t *testing.T) {
	for _, z := range zones() {
		for _, day := range []int{early, late} {
			list := moments(t, z, day)
			for _, minute := range []int{0, 1, 719, 720, 1438, 1439} {
				wantMoment(t, z, day, minute, list[minute])
			}
		}
		for _, day := range []int{early, onDay, late} {
			for _, minute := range wrongMinutes() {
				wantNoMoment(t, z, day, minute, api.ErrWindowDay)
			}
		}
		for _, day := range wrongDays() {
			for _, minute := range append(wrongMinutes(), 0, 1, 720, 1439) {
				wantNoMoment(t, z, day, minute, api.ErrWindowDay)
			}
		}
	}
	wantMoment(t, north(), early, 0, early*1440-60)
	wantMoment(t, north(), late, 1439, late*1440+1439-120) // in October 9999, ahead of its last Sunday
	wantMoment(t, south(), early, 0, early*1440-660)
	wantMoment(t, south(), late, 1439, late*1440+1439-660)
}

func TestP14_1SkippedOnTheLastDay(t *testing.T) {
	// The last day is a Saturday of October 9999, the fourth one: clocks are set on at its end.
	date, _ := greg.Of(late)
	nth, _ := greg.Nth(date.Year, date.Month, late%7, (date.Day+6)/7)
	if nth != late {
		t.Fatalf("the last day is %v, and the day of that weekday %d", date, nth)
	}
	z := api.Zone{Base: -720, Shift: 120, On: api.Turn{Month: date.Month, Week: (date.Day + 6) / 7, Weekday: late % 7, Minute: 1439}, Off: api.Turn{Month: 3, Week: 1}}
	wantMoment(t, z, late, 1438, late*1440+1438+720)
	wantMoment(t, z, late, 1439, late*1440+1439+720)
	z.On.Minute = 1400
	for minute := 1400; minute < 1440; minute++ {
		wantMoment(t, z, late, minute, late*1440+1400+720)
	}
}

func TestP14_1TellsTheZoneFirst(t *testing.T) {
	for z, want := range wrongZones() {
		for _, day := range append(wrongDays(), early, onDay, late) {
			for _, minute := range append(wrongMinutes(), 0, 720, 1439) {
				wantNoMoment(t, z, day, minute, want)
			}
		}
	}
}

func TestP14_1AboutTheTurns(t *testing.T) {
	overZones(t, func(t *testing.T, z api.Zone) {
		days := turnDays(z, 2019, 2024)
		if z.Shift > 0 && len(days) < 6*2*3-3 {
			t.Fatalf("the clocks of %v are set about %v alone", z, days)
		}
		skipped, twice := 0, 0
		for _, day := range days {
			for minute, want := range moments(t, z, day) {
				wantMoment(t, z, day, minute, want)
				list, _ := zone.Instants(z, day, minute)
				if len(list) == 0 {
					skipped++
				}
				if len(list) == 2 {
					twice++
				}
			}
		}
		if z.Shift > 0 && (skipped < 3*z.Shift || twice < 3*z.Shift) {
			t.Fatalf("of %v %d minutes are skipped, and %d told twice", z, skipped, twice)
		}
	})
}

func TestP14_1FarFromTheTurns(t *testing.T) {
	overZones(t, func(t *testing.T, z api.Zone) {
		next := chance(14)
		for range 20 {
			day := early + next(late-early+1)
			list := moments(t, z, day)
			for range 30 {
				minute := next(1440)
				wantMoment(t, z, day, minute, list[minute])
			}
		}
	})
}

func TestP14_2Weekdays(t *testing.T) {
	c := house(api.Zone{})
	for _, first := range []int{early, onDay, 738773, lastHebrew, late - 6} {
		for day := first; day < first+7; day++ {
			for weekday := range 7 {
				w := api.Window{Kind: api.WinWeekly, Mode: 2, Prio: 7, Arg: []int{1, 2, 4, 8, 16, 32, 64}[weekday], Minute: 100, Len: 50}
				without := w
				without.Arg = 127 - w.Arg
				if day%7 == weekday {
					wantSpan(t, c, w, day, day*1440+100, day*1440+150)
					wantNone(t, c, without, day)
				} else {
					wantNone(t, c, w, day)
					wantSpan(t, c, without, day, day*1440+100, day*1440+150)
				}
			}
			for arg := 1; arg <= 127; arg++ {
				wantWords(t, c, api.Window{Kind: api.WinWeekly, Mode: 1, Arg: arg, Minute: 1439, Len: 1}, day)
			}
			wantSpan(t, c, api.Window{Kind: api.WinWeekly, Arg: 127, Len: 1}, day, day*1440, day*1440+1)
		}
	}
	// September 16, 2023, is a Saturday, as October 29 is a Sunday.
	wantSpan(t, c, api.Window{Kind: api.WinWeekly, Arg: 64, Len: 1}, number(2023, 9, 16), 738779*1440, 738779*1440+1)
	wantSpan(t, c, api.Window{Kind: api.WinWeekly, Arg: 1, Len: 1}, number(2023, 10, 29), offDay*1440, offDay*1440+1)
}

func TestP14_2Dated(t *testing.T) {
	c := house(north())
	for _, day := range []int{early, early + 1, 738779, onDay, lastHebrew, late - 1, late} {
		w := api.Window{Kind: api.WinDated, Mode: 5, Prio: 99, Arg: day, Minute: 600, Len: 90}
		from := moments(t, c.Zone, day)[600]
		wantSpan(t, c, w, day, from, from+90)
		for _, other := range []int{day - 7, day - 2, day - 1, day + 1, day + 2, day + 7, early, late, day ^ 1, day ^ 1024} {
			if other >= early && other <= late && other != day {
				wantNone(t, c, w, other)
			}
		}
	}
	// Dates that may be, though no day may be asked on which they begin.
	for _, arg := range []int{401, late + 1, 3651998} {
		w := api.Window{Kind: api.WinDated, Arg: arg, Len: 1}
		for _, day := range []int{early, early + 1, late - 1, late, onDay} {
			wantNone(t, c, w, day)
		}
		wantRefused(t, c, w, arg, api.ErrWindowDay)
	}
}

// firstDays are the first days of two years' feasts, by the civil calendar as almanacs have them: the year 5784 and the year 5785, in the order of their kinds.
func firstDays() [][7]int {
	return [][7]int{
		{number(2023, 9, 16), number(2023, 9, 25), number(2023, 9, 30), number(2023, 10, 7), number(2024, 4, 23), number(2024, 4, 29), number(2024, 6, 12)},
		{number(2024, 10, 3), number(2024, 10, 12), number(2024, 10, 17), number(2024, 10, 24), number(2025, 4, 13), number(2025, 4, 19), number(2025, 6, 2)},
	}
}

// feastDays are all days of two years' feasts, each with its kind.
func feastDays(abroad bool) map[int]int {
	kinds := map[int]int{}
	for _, year := range firstDays() {
		for i, n := range year {
			kinds[n] = i + 1
			if i == 0 || abroad && i != 1 {
				kinds[n+1] = i + 1
			}
		}
	}
	return kinds
}

func TestP14_2Feasts(t *testing.T) {
	for _, c := range []api.Config{house(api.Zone{Base: 120}), abroad(house(api.Zone{Base: 120}))} {
		kinds := feastDays(c.Abroad)
		for shift := -7; shift <= 7; shift++ {
			for kind := api.FeastYear; kind <= api.FeastWeeks; kind++ {
				w := api.Window{Kind: api.WinFeast, Mode: 4, Prio: 3, Arg: kind, Shift: shift, Minute: 120, Len: 1440}
				for day := number(2023, 9, 8); day <= number(2025, 6, 20); day++ {
					if kinds[day-shift] == kind {
						wantSpan(t, c, w, day, day*1440, day*1440+1440)
					} else {
						wantNone(t, c, w, day)
					}
				}
			}
		}
	}
}

func TestP14_2FeastsAheadAndBehind(t *testing.T) {
	c := house(api.Zone{})
	passover := number(2024, 4, 23)
	for _, shift := range []int{-7, -3, -1, 0, 1, 5, 7} {
		w := api.Window{Kind: api.WinFeast, Arg: api.FeastPassover, Shift: shift, Minute: 480, Len: 60}
		wantSpan(t, c, w, passover+shift, (passover+shift)*1440+480, (passover+shift)*1440+540)
		for _, other := range []int{passover - shift, passover + shift - 1, passover + shift + 1} {
			if other != passover+shift {
				wantNone(t, c, w, other)
			}
		}
		// Abroad the feast has a second day, and each of both its window.
		for _, day := range []int{passover + shift, passover + shift + 1} {
			wantSpan(t, abroad(c), w, day, day*1440+480, day*1440+540)
		}
		wantNone(t, abroad(c), w, passover+shift-1)
		wantNone(t, abroad(c), w, passover+shift+2)
	}
}

func TestP14_2FeastsOfAnotherYear(t *testing.T) {
	c := house(api.Zone{})
	newYear := number(2024, 10, 3) // 5785: what lies ahead of it is of 5784
	for shift := -7; shift < 0; shift++ {
		w := api.Window{Kind: api.WinFeast, Arg: api.FeastYear, Shift: shift, Len: 1}
		wantSpan(t, c, w, newYear+shift, (newYear+shift)*1440, (newYear+shift)*1440+1)
		wantSpan(t, c, w, newYear+shift+1, (newYear+shift+1)*1440, (newYear+shift+1)*1440+1)
		wantNone(t, c, w, newYear+shift-1)
		wantNone(t, c, w, newYear+shift+2)
	}
	// By the civil calendar no feast lies within seven days of a year's ends.
	for year := 1900; year < 2400; year += 3 {
		for day := number(year, 12, 20); day < number(year+1, 1, 12); day++ {
			for kind := api.FeastYear; kind <= api.FeastWeeks; kind++ {
				wantNone(t, abroad(c), api.Window{Kind: api.WinFeast, Arg: kind, Shift: day%15 - 7, Len: 1}, day)
			}
		}
	}
}

func TestP14_2FeastsBeyondTheHebrewDates(t *testing.T) {
	for _, c := range []api.Config{house(api.Zone{}), abroad(house(api.Zone{}))} {
		for kind := api.FeastYear; kind <= api.FeastWeeks; kind++ {
			for shift := -7; shift <= 7; shift++ {
				w := api.Window{Kind: api.WinFeast, Arg: kind, Shift: shift, Len: 1}
				for day := lastHebrew - 20; day < lastHebrew+400; day++ {
					wantNone(t, c, w, day) // 1 and 2 Tishri of 10000, too, which are no days of a year that is reckoned
				}
				for _, day := range []int{late - 8, late - 7, late - 1, late} {
					wantNone(t, c, w, day)
				}
				for day := early; day < early+400; day++ {
					wantWords(t, c, w, day)
				}
			}
		}
	}
}

// rows are the rows of days of rest about two years' feasts, each by its first day and how many days it has, at home and abroad.
func rows() []struct {
	first, home, abroad int
} {
	return []struct{ first, home, abroad int }{
		{number(2023, 9, 16), 2, 2},                              // New Year, on a Saturday and a Sunday
		{number(2023, 9, 23), 1, 1},                              // a Saturday
		{number(2023, 9, 25), 1, 1},                              // the Fast, on a Monday
		{number(2023, 9, 30), 1, 2}, {number(2023, 10, 7), 1, 2}, // both on a Saturday
		{number(2024, 4, 20), 1, 1},
		{number(2024, 4, 23), 1, 2}, {number(2024, 4, 29), 1, 2}, {number(2024, 6, 12), 1, 2}, // a Tuesday, a Monday, a Wednesday
		{number(2024, 10, 3), 3, 3},                                // New Year, on a Thursday and a Friday, and the Saturday
		{number(2024, 10, 12), 1, 1},                               // the Fast, on a Saturday
		{number(2024, 10, 17), 1, 3}, {number(2024, 10, 24), 1, 3}, // Thursdays: at home the Friday is none of rest
		{number(2024, 10, 19), 1, 0}, {number(2024, 10, 26), 1, 0}, // the Saturdays behind them
		{number(2025, 4, 12), 2, 3}, // a Saturday, and Passover behind it
		{number(2025, 4, 19), 1, 2}, {number(2025, 6, 2), 1, 2},
		{number(2025, 5, 31), 1, 1},
	}
}

func TestP14_2RowsOfDaysOfRest(t *testing.T) {
	home, away := house(api.Zone{Base: 120}), abroad(house(api.Zone{Base: 120}))
	for _, x := range rows() {
		for c, days := range map[*api.Config]int{&home: x.home, &away: x.abroad} {
			if days == 0 {
				continue // it is within another row
			}
			w := api.Window{Kind: api.WinRest, Mode: api.ModeShabbat, Prio: 50, Minute: 18, Len: 42}
			wantSpan(t, *c, w, x.first-1, sets(t, *c, x.first-1)-18, sets(t, *c, x.first+days-1)+42)
			for day := x.first; day < x.first+days-1; day++ {
				wantNone(t, *c, w, day) // a day of rest, with one behind it
			}
			if last := x.first + days - 1; !feast.Rest(last+2, c.Abroad) {
				wantNone(t, *c, w, last)
				wantNone(t, *c, w, last+1)
			}
		}
	}
}

func TestP14_2ToTheMinuteOfSunsets(t *testing.T) {
	// September has 30 days, from 1080 on to 1030: 50 less to go, divided down. October has 31, from 1030 on to 1000.
	c := house(api.Zone{Base: 120})
	friday, saturday, sunday := number(2023, 9, 15), number(2023, 9, 16), number(2023, 9, 17)
	w := api.Window{Kind: api.WinRest, Mode: 1}
	wantSpan(t, c, w, friday, friday*1440+1080-24-120, sunday*1440+1080-27-120)
	for _, x := range []struct{ ahead, behind int }{{0, 0}, {1, 0}, {0, 1}, {18, 25}, {180, 0}, {0, 180}, {180, 180}} {
		w.Minute, w.Len = x.ahead, x.behind
		wantSpan(t, c, w, friday, friday*1440+936-x.ahead, sunday*1440+933+x.behind)
		wantNone(t, c, w, saturday)
		wantNone(t, c, w, sunday)
		wantNone(t, c, w, friday-1)
	}
	// From the last day of a month to the first one of the next, at home up to a Saturday, abroad up to a Sunday.
	eve := number(2023, 9, 29)
	w = api.Window{Kind: api.WinRest, Mode: 1, Minute: 30, Len: 40}
	wantSpan(t, c, w, eve, eve*1440+1080-47-120-30, (eve+1)*1440+1080-49-120+40)
	wantSpan(t, abroad(c), w, eve, eve*1440+1080-47-120-30, (eve+2)*1440+1030-120+40)
	// At the bounds: the earliest sunset far in the east, and the latest one far in the west.
	wantSpan(t, sunny(house(api.Zone{Base: 840}), flat(900)), w, eve, eve*1440+60-30, (eve+1)*1440+60+40)
	wantSpan(t, sunny(house(api.Zone{Base: -720}), flat(1320)), w, eve, eve*1440+2040-30, (eve+1)*1440+2040+40)
}

func TestP14_2RestKnowsNoShift(t *testing.T) {
	// The sun sets as it would in a zone whose clocks are never set, on the days of turns too.
	w := api.Window{Kind: api.WinRest, Mode: 1, Minute: 20, Len: 30}
	for _, z := range zones() {
		c, still := house(z), house(api.Zone{Base: z.Base})
		for _, n := range turnDays(z, 2022, 2024) {
			for day := n - 3; day <= n+3; day++ {
				got, is, err := Span(c, w, day)
				want, begins, _ := Span(still, w, day)
				if got != want || is != begins || err != api.OK {
					t.Fatalf("Span(.., %v, %d) = %v, %v, %d in the zone %v, and without a shift %v, %v", w, day, got, is, err, z, want, begins)
				}
			}
		}
	}
	// March 25, 2023, is a Saturday, ahead of a turn; it ends at the same minute all the same.
	c := house(north())
	wantSpan(t, c, w, onDay-2, sets(t, c, onDay-2)-20, sets(t, c, onDay-1)+30)
	// October 28, 2023: likewise, ahead of the turn back.
	wantSpan(t, c, w, offDay-2, sets(t, c, offDay-2)-20, sets(t, c, offDay-1)+30)
	// A turn within the row, on Sunday October 1, 2023.
	d := abroad(house(south()))
	wantSpan(t, d, w, number(2023, 9, 29), sets(t, d, number(2023, 9, 29))-20, sets(t, d, number(2023, 10, 1))+30)
}

func TestP14_2RestBeyondTheHebrewDates(t *testing.T) {
	w := api.Window{Kind: api.WinRest, Mode: 1, Minute: 180, Len: 180}
	for _, c := range []api.Config{house(api.Zone{}), abroad(house(north()))} {
		begins := 0
		for day := early; day < early+400; day++ {
			if wantWords(t, c, w, day) {
				begins++
			}
		}
		if begins < 52 {
			t.Fatalf("in the first 400 days %d begin", begins)
		}
		// The last Saturday, and behind it none.
		last := lastHebrew - (lastHebrew-6)%7
		wantSpan(t, c, w, last-1, sets(t, c, last-1)-180, sets(t, c, last)+180)
		for day := last; day < lastHebrew+400; day++ {
			wantNone(t, c, w, day)
		}
		for day := late - 20; day <= late; day++ {
			wantNone(t, c, w, day)
		}
	}
	// The first Friday of all, in February of the year 2.
	c := house(api.Zone{Base: -100})
	wantNone(t, c, w, early)
	wantNone(t, c, w, early+1)
	wantSpan(t, c, w, 404, sets(t, c, 404)-180, sets(t, c, 405)+180)
}

// timedWindows are windows of the kinds that begin at a minute of a day, all on that day.
func timedWindows(t *testing.T, day, minute, length int) []api.Window {
	t.Helper()
	list := []api.Window{
		{Kind: api.WinWeekly, Mode: 1, Prio: 1, Arg: 1 << (day % 7), Minute: minute, Len: length},
		{Kind: api.WinDated, Mode: 2, Prio: 2, Arg: day, Minute: minute, Len: length},
	}
	for shift := -7; shift <= 7; shift++ {
		if kind := feast.Kind(day-shift, false); kind != api.FeastNone {
			list = append(list, api.Window{Kind: api.WinFeast, Mode: 3, Prio: 3, Arg: kind, Shift: shift, Minute: minute, Len: length})
		}
	}
	return list
}

func TestP14_2OnDaysOnWhichClocksAreSet(t *testing.T) {
	c := house(north())
	for _, x := range []struct{ day, minute, from int }{
		{onDay, 0, onDay*1440 - 60}, {onDay, 119, onDay*1440 + 59}, {onDay, 120, onDay*1440 + 60}, {onDay, 150, onDay*1440 + 60}, {onDay, 179, onDay*1440 + 60}, {onDay, 180, onDay*1440 + 60}, {onDay, 181, onDay*1440 + 61}, {onDay, 1439, onDay*1440 + 1319},
		{offDay, 0, offDay*1440 - 120}, {offDay, 119, offDay*1440 - 1}, {offDay, 120, offDay * 1440}, {offDay, 179, offDay*1440 + 59}, {offDay, 180, offDay*1440 + 120}, {offDay, 1439, offDay*1440 + 1379},
	} {
		for _, length := range []int{1, 2, 59, 60, 61, 120, 600, 1440, 10079, 10080} {
			for _, w := range timedWindows(t, x.day, x.minute, length) {
				wantSpan(t, c, w, x.day, x.from, x.from+length) // as long as ever, whatever clocks tell at its end
			}
		}
	}
	// Feasts' windows about turns: in the zone south clocks are set on on October 1, 2023, and in midnight's zone all that is left of a day is skipped.
	d := house(south())
	day := number(2023, 10, 1)
	for _, w := range timedWindows(t, day, 130, 100) {
		wantSpan(t, d, w, day, day*1440+120-630, day*1440+220-630)
	}
	on := number(2023, 3, 1)
	for _, w := range timedWindows(t, on, 1439, 1) {
		wantSpan(t, house(midnight()), w, on, on*1440+1380+720, on*1440+1381+720)
	}
}

func TestP14_2MinuteAndLenAtTheirBounds(t *testing.T) {
	c := house(api.Zone{Base: 60})
	for _, day := range []int{early, 738779, number(2024, 4, 23), lastHebrew, late} {
		for _, minute := range []int{0, 1, 1438, 1439} {
			for _, length := range []int{1, 2, 10079, 10080} {
				for _, w := range timedWindows(t, day, minute, length) {
					wantSpan(t, c, w, day, day*1440+minute-60, day*1440+minute-60+length)
				}
			}
		}
	}
	friday := number(2023, 9, 15)
	for _, ahead := range []int{0, 1, 179, 180} {
		for _, behind := range []int{0, 1, 179, 180} {
			wantSpan(t, c, api.Window{Kind: api.WinRest, Minute: ahead, Len: behind}, friday, friday*1440+1056-60-ahead, (friday+2)*1440+1053-60+behind)
		}
	}
}

func TestP14_2ModeAndPrioAreKept(t *testing.T) {
	c := house(api.Zone{})
	friday := number(2023, 9, 15)
	for mode := api.ModeNormal; mode <= api.ModeDeliver; mode++ {
		for prio := 0; prio <= api.MaxPrio; prio++ {
			for _, w := range append(timedWindows(t, friday, 10, 10), api.Window{Kind: api.WinRest}) {
				w.Mode, w.Prio = mode, prio
				got, is, err := Span(c, w, friday)
				if got.Mode != mode || got.Prio != prio || !is || err != api.OK {
					t.Fatalf("Span(.., %v, %d) = %v, %v, %d", w, friday, got, is, err)
				}
			}
		}
	}
}

func TestP14_2NoWindowNeedBeTheConfigurations(t *testing.T) {
	w := api.Window{Kind: api.WinWeekly, Mode: 3, Prio: 1, Arg: 65, Minute: 1200, Len: 600}
	c := house(api.Zone{})
	for _, windows := range [][]api.Window{nil, {}, {w}, {{Kind: api.WinRest}}, {{Kind: api.WinDated, Mode: 5, Prio: 99, Arg: 738779, Len: 10080}}, slices.Repeat([]api.Window{w}, 16)} {
		c.Windows = windows
		wantSpan(t, c, w, 738779, 738779*1440+1200, 738779*1440+1800)
		wantNone(t, c, w, 738778)
	}
}

func TestP14_2OrderOfErrors(t *testing.T) {
	good := api.Window{Kind: api.WinWeekly, Arg: 127, Len: 1}
	own := house(north())
	own.Windows = []api.Window{good}
	windows := append(wrongWindows(), good)
	days := append(wrongDays(), early, onDay, late)
	for _, x := range wrongHouses() {
		for _, w := range windows {
			for _, day := range days {
				wantRefused(t, x.c, w, day, x.err)
			}
		}
	}
	for _, c := range []api.Config{house(north()), own, abroad(house(api.Zone{}))} {
		for _, w := range wrongWindows() {
			for _, day := range days {
				wantRefused(t, c, w, day, api.ErrConfigWindow)
			}
		}
		for _, w := range []api.Window{good, {Kind: api.WinDated, Arg: onDay, Len: 1}, {Kind: api.WinDated, Arg: 401, Len: 1}, {Kind: api.WinFeast, Arg: 1, Len: 1}, {Kind: api.WinRest}} {
			for _, day := range wrongDays() {
				wantRefused(t, c, w, day, api.ErrWindowDay)
			}
		}
	}
	// A day is refused though a window would begin on it, and one on which none begins is not.
	wantRefused(t, own, good, early-1, api.ErrWindowDay)
	wantRefused(t, own, good, late+1, api.ErrWindowDay)
	wantNone(t, own, api.Window{Kind: api.WinDated, Arg: early + 1, Len: 1}, early)
}

// sampled is a window that may be, of some kind, with numbers by chance.
func sampled(next func(below int) int, kind, day int) api.Window {
	w := api.Window{Kind: kind, Mode: next(6), Prio: next(100), Minute: next(1440), Len: 1 + next(10080)}
	switch kind {
	case api.WinWeekly:
		w.Arg = 1 + next(127)
	case api.WinDated:
		w.Arg = day + next(3) - 1
	case api.WinFeast:
		w.Shift = next(15) - 7
		w.Arg = feast.Kind(day-w.Shift, next(2) == 1)
		if w.Arg == api.FeastNone {
			w.Arg = 1 + next(7)
		}
	case api.WinRest:
		w.Minute, w.Len = next(181), next(181)
	}
	return w
}

func TestP14_2BySamples(t *testing.T) {
	overZones(t, func(t *testing.T, z api.Zone) {
		next := chance(142)
		days := turnDays(z, 2020, 2025)
		for range 60 {
			days = append(days, early+1+next(lastHebrew))
		}
		for first := number(2024, 9, 25); first < number(2024, 10, 30); first++ {
			days = append(days, first)
		}
		var begun [5]int
		for _, day := range days {
			for _, s := range suns() {
				c := sunny(house(z), s)
				c.Abroad = next(2) == 1
				for kind := api.WinWeekly; kind <= api.WinRest; kind++ {
					if wantWords(t, c, sampled(next, kind, day), day) {
						begun[kind]++
					}
				}
			}
		}
		if slices.Min(begun[1:]) < 10 {
			t.Fatalf("of each kind so many begin: %v", begun[1:])
		}
	})
}

func TestP14_3MomentsDontGoBack(t *testing.T) {
	overZones(t, func(t *testing.T, z api.Zone) {
		for _, day := range append(turnDays(z, 2019, 2024), early, early+1, late-1, late) {
			before := api.MinInt
			for minute := range 1440 {
				at, err := Moment(z, day, minute)
				if at < before || err != api.OK {
					t.Fatalf("Moment(%v, %d, %d) = %d, %d behind %d", z, day, minute, at, err, before)
				}
				before = at
			}
			if day == late {
				continue
			}
			// Where no minute is told twice over the midnight the next day's first one is not ahead, either.
			list, _ := zone.Instants(z, day+1, 0)
			if next, err := Moment(z, day+1, 0); err != api.OK || next < before && len(list) != 2 {
				t.Fatalf("Moment(%v, %d, 0) = %d, %d behind %d", z, day+1, next, err, before)
			}
		}
	})
}

func TestP14_3WindowsAboutDaysOfRestDontTouch(t *testing.T) {
	overZones(t, func(t *testing.T, z api.Zone) {
		for i, s := range suns() {
			for _, c := range []api.Config{sunny(house(z), s), abroad(sunny(house(z), s))} {
				// Of each pair the widest ones are held against each other, whichever windows they are of.
				w := api.Window{Kind: api.WinRest, Mode: 1, Minute: 180, Len: 180}
				to, count := api.MinInt, 0
				for day := number(2023, 8, 1) + 300*i; day < number(2025, 8, 1)+300*i; day++ {
					got, is, err := Span(c, w, day)
					if err != api.OK || is && (got.From <= to || got.To <= got.From) {
						t.Fatalf("Span(.., %v, %d) = %v, %v, %d behind one up to %d", w, day, got, is, err, to)
					}
					if is {
						to = got.To
						count++
					}
				}
				if count < 100 {
					t.Fatalf("of two years %d begin", count)
				}
			}
		}
	})
}

func TestP14_3OverAllHebrewYears(t *testing.T) {
	var group sync.WaitGroup
	for _, c := range []api.Config{house(north()), abroad(sunny(house(west()), flat(1320)))} {
		for _, from := range []int{early, number(1000, 1, 1), number(2000, 1, 1), number(6000, 1, 1), lastHebrew - 2000} {
			group.Go(func() {
				t.Run("", func(t *testing.T) {
					w := api.Window{Kind: api.WinRest, Mode: 1, Minute: 180, Len: 180}
					to := api.MinInt
					for day := from; day < from+4000; day++ {
						got, is, err := Span(c, w, day)
						if err != api.OK || is && got.From <= to {
							t.Fatalf("Span(.., %v, %d) = %v, %v, %d behind one up to %d", w, day, got, is, err, to)
						}
						if is {
							to = got.To
						}
					}
				})
			})
		}
	}
	group.Wait()
}

func TestEachKindIsAStructBehindAnInterface(t *testing.T) {
	c := house(north())
	seen := map[reflect.Type]int{}
	for _, w := range []api.Window{{Kind: api.WinWeekly, Arg: 1, Len: 1}, {Kind: api.WinDated, Arg: 1, Len: 1}, {Kind: api.WinFeast, Arg: 1, Len: 1}, {Kind: api.WinRest}} {
		var k kind = kindOf(c, w)
		what := reflect.TypeOf(k)
		if what.Kind() != reflect.Struct || seen[what] != 0 {
			t.Errorf("the kind %d is %v, as the kind %d", w.Kind, what, seen[what])
		}
		seen[what] = w.Kind
	}
}

// roomy is a list with spare room that is marked, and the whole of that room.
func roomy[T any](list []T, mark T) (with, whole []T) {
	whole = slices.Repeat([]T{mark}, len(list)+3)
	copy(whole, list)
	return whole[:len(list)], whole
}

func TestHandedInIsLeftAsItWas(t *testing.T) {
	windows := []api.Window{
		{Kind: api.WinWeekly, Mode: 3, Prio: 1, Arg: 65, Minute: 1200, Len: 600}, {Kind: api.WinDated, Mode: 2, Arg: 738779, Minute: 1, Len: 1},
		{Kind: api.WinFeast, Mode: 4, Arg: 1, Shift: 1, Len: 5}, {Kind: api.WinRest, Mode: 1, Minute: 18, Len: 42},
	}
	c := house(north())
	var allStops []int
	var allWindows []api.Window
	c.Stops, allStops = roomy([]int{1, 4, 8}, -7)
	c.Windows, allWindows = roomy(windows, api.Window{Kind: -7})
	stops, kept := slices.Clone(allStops), slices.Clone(allWindows)
	for day := 738770; day < 738790; day++ {
		for _, w := range append(slices.Clone(windows), api.Window{}) {
			Span(c, w, day)
			Span(c, w, day-738770)
		}
	}
	if !slices.Equal(allStops, stops) || !slices.Equal(allWindows, kept) {
		t.Fatalf("a configuration became %v, %v", allStops, allWindows)
	}
	d := house(north())
	d.Stops, d.Windows = c.Stops, c.Windows
	if !reflect.DeepEqual(c, d) {
		t.Fatalf("a configuration became %v", c)
	}
}

func TestNothingIsKept(t *testing.T) {
	c := house(north())
	c.Windows = []api.Window{{Kind: api.WinWeekly, Mode: 3, Prio: 1, Arg: 65, Minute: 1200, Len: 600}}
	w, rest := c.Windows[0], api.Window{Kind: api.WinRest, Mode: 1}
	first, is, err := Span(c, w, 738779)
	// What was handed in is overwritten, and other questions come between.
	c.Stops[0], c.Windows[0] = -1, api.Window{}
	wantRefused(t, c, w, 738779, api.ErrConfigStops)
	wantNone(t, house(api.Zone{}), rest, 738779)
	wantSpan(t, abroad(sunny(house(api.Zone{}), flat(900))), rest, 738778, 738778*1440+900, 738780*1440+900)
	again, isAgain, errAgain := Span(house(north()), w, 738779)
	if first != again || !is || !isAgain || err != api.OK || errAgain != api.OK {
		t.Fatalf("Span = %v, %v, %d, and again %v, %v, %d", first, is, err, again, isAgain, errAgain)
	}
	wantMoment(t, north(), onDay, 150, onDay*1440+60)
	wantMoment(t, api.Zone{}, onDay, 150, onDay*1440+150)
	wantMoment(t, north(), onDay, 150, onDay*1440+60)
}

func TestExample(t *testing.T) {
	w := api.Window{Kind: api.WinWeekly, Mode: api.ModeLock, Arg: 65, Minute: 1200, Len: 600}
	for _, base := range []int{0, 60, -300} {
		c := house(api.Zone{Base: base})
		c.Windows = []api.Window{w}
		wantSpan(t, c, w, 738779, 738779*1440+1200-base, 738779*1440+1800-base)
		wantSpan(t, c, w, 738780, 738780*1440+1200-base, 738780*1440+1800-base)
		for day := 738781; day <= 738785; day++ {
			wantNone(t, c, w, day)
		}
	}
}

func TestP1AllArgumentsEnd(t *testing.T) {
	numbers := []int{api.MinInt, api.MinInt + 1, -1 << 32, -1, 0, 1, 6, 127, 401, 402, 1439, 1440, 3651990, 3651998, 1 << 32, api.MaxInt - 1, api.MaxInt}
	c := house(north())
	for _, a := range numbers {
		for _, b := range numbers {
			for _, z := range []api.Zone{north(), {Base: a}, {Base: b, Shift: a}, {Base: 60, Shift: 60, On: api.Turn{Month: a, Week: b}}} {
				if at, err := Moment(z, a, b); err != api.OK && at != 0 {
					t.Fatalf("Moment(%v, %d, %d) = %d, %d", z, a, b, at, err)
				}
			}
			for _, day := range numbers {
				for kind := -1; kind <= 6; kind++ {
					for _, w := range []api.Window{{Kind: kind, Arg: a, Len: b}, {Kind: kind, Arg: 1, Minute: a, Len: b}, {Kind: kind, Shift: a, Arg: b, Len: 1}, {Kind: kind, Minute: a, Len: b}, {Kind: kind, Mode: a, Prio: b, Arg: 1, Len: 1}} {
						got, is, err := Span(c, w, day)
						if (err != api.OK || !is) && (is || got != api.Span{}) {
							t.Fatalf("Span(.., %v, %d) = %v, %v, %d", w, day, got, is, err)
						}
					}
				}
			}
		}
	}
}
