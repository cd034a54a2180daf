package table

import (
	"cmp"
	"iter"
	"reflect"
	"runtime"
	"slices"
	"sync"
	"testing"
	"time"

	"newel/api"
	"newel/config"
	"newel/feast"
	"newel/span"
	"newel/window"
	"newel/zone"
)

// The first and the last day of those that may be asked, of Spans and of Row.
const (
	early, late       = 402, 3651990
	earlyRow, lateRow = 411, 3651988
)

// Days of 2023: those on which the clocks of the zone north are set, and the Friday ahead of the two days of New Year.
const (
	onDay  = 738605 // March 26
	offDay = 738822 // October 29
	eve    = 738778 // September 15
)

// The first day that is served, and the first one behind the last one, of unshifted time.
const (
	opens  = 693596 // January 1, 1900
	closes = 876217 // January 1, 2400
)

// none stands for no mode, where no span is.
const none = -1

// chance makes a row of numbers without an order, the same one from each beginning.
func chance(seed uint64) func(below int) int {
	return func(below int) int {
		seed = seed*6364136223846793005 + 1442695040888963407
		return int((seed ^ seed>>29) >> 16 % uint64(below))
	}
}

// north is shifted in the middle of the year.
func north() api.Zone {
	return api.Zone{Base: 60, Shift: 60, On: api.Turn{Month: 3, Week: 5, Minute: 120}, Off: api.Turn{Month: 10, Week: 5, Minute: 120}}
}

// south is shifted over the turn of the year, by half an hour.
func south() api.Zone {
	return api.Zone{Base: 630, Shift: 30, On: api.Turn{Month: 10, Week: 1, Minute: 120}, Off: api.Turn{Month: 4, Week: 1, Minute: 90}}
}

// west is behind: Base is below 0.
func west() api.Zone {
	return api.Zone{Base: -300, Shift: 60, On: api.Turn{Month: 3, Week: 2, Minute: 120}, Off: api.Turn{Month: 11, Week: 1, Minute: 60}}
}

// midnight is a zone whose clocks skip the last hour of a Wednesday and the first one of the Thursday behind it, and tell the first two hours of a Tuesday twice.
func midnight() api.Zone {
	return api.Zone{Base: -720, Shift: 120, On: api.Turn{Month: 3, Week: 1, Weekday: 3, Minute: 1380}, Off: api.Turn{Month: 10, Week: 5, Weekday: 2}}
}

// again is a zone whose clocks are set back from the first half hour of a Monday to the last one of the Sunday: both are told twice.
func again() api.Zone {
	return api.Zone{Shift: 60, On: api.Turn{Month: 3, Week: 5, Minute: 120}, Off: api.Turn{Month: 10, Week: 5, Minute: 1410}}
}

// oneMinute is a zone whose clocks skip a minute of a Sunday, and tell one of another Sunday twice.
func oneMinute(on, off int) api.Zone {
	return api.Zone{Base: 60, Shift: 1, On: api.Turn{Month: 3, Week: 5, Minute: on}, Off: api.Turn{Month: 10, Week: 5, Minute: off}}
}

// zones are many that may be, with what lies at the bounds among them: turns at the beginning and at the end of days, months and years.
func zones() []api.Zone {
	list := []api.Zone{
		{}, {Base: -720}, {Base: 840}, {Base: 345}, {Base: -1}, north(), south(), west(), midnight(), again(), oneMinute(1439, 0), oneMinute(0, 1439),
		{Base: -720, Shift: 120, On: api.Turn{Month: 1, Week: 1}, Off: api.Turn{Month: 11, Week: 5, Weekday: 6, Minute: 1439}},
		{Base: 840, Shift: 120, On: api.Turn{Month: 12, Week: 5, Weekday: 6, Minute: 1439}, Off: api.Turn{Month: 2, Week: 5, Weekday: 1}},
		{Base: 840, Shift: 1, On: api.Turn{Month: 3, Week: 5, Weekday: 3, Minute: 1439}, Off: api.Turn{Month: 1, Week: 1, Weekday: 4}},
		{Base: -720, Shift: 1, On: api.Turn{Month: 2, Week: 4, Weekday: 2}, Off: api.Turn{Month: 12, Week: 5, Weekday: 5, Minute: 1439}},
		{Base: 0, Shift: 120, On: api.Turn{Month: 12, Week: 5, Weekday: 0, Minute: 1439}, Off: api.Turn{Month: 10, Week: 3, Weekday: 5, Minute: 1400}},
		{Base: 840, Shift: 120, On: api.Turn{Month: 5, Week: 2, Weekday: 5, Minute: 1320}, Off: api.Turn{Month: 9, Week: 2, Weekday: 5, Minute: 1320}},
		{Base: -720, Shift: 120, On: api.Turn{Month: 9, Week: 2, Weekday: 5, Minute: 1319}, Off: api.Turn{Month: 5, Week: 2, Weekday: 5, Minute: 1439}},
	}
	for weekday := range 7 {
		list = append(list,
			api.Zone{Base: 60*weekday - 200, Shift: 15 * (weekday + 1), On: api.Turn{Month: 1, Week: 1, Weekday: weekday}, Off: api.Turn{Month: 7, Week: weekday%5 + 1, Weekday: 6 - weekday, Minute: 200 * weekday}},
			api.Zone{Base: 200 - 60*weekday, Shift: 17*weekday + 1, On: api.Turn{Month: 6, Week: weekday%5 + 1, Weekday: 6 - weekday, Minute: 1439}, Off: api.Turn{Month: 12, Week: 5, Weekday: weekday, Minute: 1439}},
		)
	}
	return list
}

// flat is a table of sunsets of one minute.
func flat(minute int) api.Sun {
	var s api.Sun
	for i := range s {
		s[i] = minute
	}
	return s
}

// house is a configuration that may be, of a zone, with some windows.
func house(z api.Zone, windows ...api.Window) api.Config {
	return api.Config{
		Floors: 10, Cars: 3, Park: 4, Stops: []int{1, 4, 8},
		Times: api.Times{Travel: 5, Level: 2, Open: 3, Dwell: 20, Lead: 6, Close: 4, Hold: 30},
		Rest:  40, Pater: 10, Zone: z, Sun: flat(1100), Windows: windows,
	}
}

// weekly is a window on weekdays.
func weekly(mode, prio, weekdays, minute, length int) api.Window {
	return api.Window{Kind: api.WinWeekly, Mode: mode, Prio: prio, Arg: weekdays, Minute: minute, Len: length}
}

// dated is a window on a day.
func dated(mode, prio, day, minute, length int) api.Window {
	return api.Window{Kind: api.WinDated, Mode: mode, Prio: prio, Arg: day, Minute: minute, Len: length}
}

// ofEachKind is windows of which there is one of each kind.
func ofEachKind() []api.Window {
	return []api.Window{
		{Kind: api.WinRest, Mode: api.ModeShabbat, Prio: 5, Minute: 18, Len: 42},
		{Kind: api.WinFeast, Mode: api.ModePater, Prio: 7, Arg: api.FeastYear, Shift: -1, Minute: 600, Len: 30},
		dated(api.ModeClean, 9, eve+1, 300, 10),
		weekly(api.ModeLock, 2, 96, 1200, 600), // on Fridays and Saturdays
	}
}

// always is windows that are in one mode all the time, if clocks are not set.
func always(mode int) api.Window {
	return weekly(mode, 0, 127, 0, 1440)
}

// wrongZones are zones that may not be, each with its error.
func wrongZones() map[api.Zone]api.Errno {
	return map[api.Zone]api.Errno{
		{Base: -721}: api.ErrZoneBase, {Base: 841, Shift: 121}: api.ErrZoneBase, {Base: api.MinInt}: api.ErrZoneBase, {Base: api.MaxInt}: api.ErrZoneBase,
		{Shift: -1}: api.ErrZoneShift, {Shift: 121}: api.ErrZoneShift, {Shift: api.MinInt}: api.ErrZoneShift, {Shift: api.MaxInt}: api.ErrZoneShift,
		{Shift: 60}: api.ErrZoneTurn, {On: api.Turn{Week: 1}}: api.ErrZoneTurn, {Off: api.Turn{Minute: api.MinInt}}: api.ErrZoneTurn,
	}
}

// wrong is a configuration that may not be, with its error.
type wrong struct {
	c   api.Config
	err api.Errno
}

// wrongHouses are configurations that may not be.
func wrongHouses() []wrong {
	var list []wrong
	add := func(err api.Errno, spoil func(c *api.Config)) {
		c := house(north(), ofEachKind()...)
		spoil(&c)
		list = append(list, wrong{c, err})
	}
	add(api.ErrConfigSize, func(c *api.Config) { *c = api.Config{} })
	add(api.ErrConfigSize, func(c *api.Config) { c.Floors = 65 })
	add(api.ErrConfigSize, func(c *api.Config) { c.Cars = 0 })
	add(api.ErrConfigSize, func(c *api.Config) { c.Park = api.MaxInt })
	add(api.ErrConfigStops, func(c *api.Config) { c.Stops = nil })
	add(api.ErrConfigStops, func(c *api.Config) { c.Stops = []int{4, 4} })
	add(api.ErrConfigTimes, func(c *api.Config) { c.Times.Lead = 0 })
	add(api.ErrConfigTimes, func(c *api.Config) { c.Rest = api.MinInt })
	for z, err := range wrongZones() {
		add(err, func(c *api.Config) { c.Zone = z })
	}
	add(api.ErrSunMinute, func(c *api.Config) { c.Sun[3] = 899 })
	add(api.ErrSunStep, func(c *api.Config) { c.Sun[5] = 1301 })
	add(api.ErrConfigMany, func(c *api.Config) { c.Windows = slices.Repeat([]api.Window{always(1)}, api.MaxWindows+1) })
	add(api.ErrConfigWindow, func(c *api.Config) { c.Windows = []api.Window{always(1), {}} })
	add(api.ErrConfigWindow, func(c *api.Config) { c.Windows = []api.Window{weekly(1, 0, 127, 0, 10081), always(1)} })
	add(api.ErrConfigSize, func(c *api.Config) {
		c.Floors, c.Stops, c.Zone, c.Windows = 1, nil, api.Zone{Base: 841}, make([]api.Window, 20)
	})
	return list
}

// number is a civil day's number, by the library's calendar.
func number(year int, month time.Month, day int) int {
	const beginning = -62135596800 // of the day 1, in the library's seconds
	return int((time.Date(year, month, day, 0, 0, 0, 0, time.UTC).Unix()-beginning)/86400) + 1
}

// turnDays are the days on which a zone's clocks are set in a year, with their neighbours.
func turnDays(z api.Zone, year int) []int {
	var list []int
	for n := number(year, 1, 1); n <= number(year, 12, 31); n++ {
		before, _ := zone.Summer(z, n*1440-z.Base)
		behind, _ := zone.Summer(z, (n+1)*1440-z.Base)
		if before != behind {
			list = append(list, n-1, n, n+1, n+2)
		}
	}
	return list
}

// timetable is windows by chance, of all kinds, many of which begin on some day or on the days about it.
func timetable(next func(below int) int, day, many int) []api.Window {
	var list []api.Window
	for range many {
		w := api.Window{Kind: 1 + next(4), Mode: next(6), Prio: next(3), Minute: next(1440), Len: []int{1 + next(120), 1 + next(1440), 1440, 10080 - next(60), 1 + next(10080)}[next(5)]}
		switch w.Kind {
		case api.WinWeekly:
			w.Arg = []int{127, 1 << next(7), 1 + next(127)}[next(3)]
		case api.WinDated:
			w.Arg = day - 9 + next(12)
		case api.WinFeast:
			w.Shift = next(15) - 7
			w.Arg = cmp.Or(feast.Kind(day-w.Shift, next(2) == 1), 1+next(7))
		case api.WinRest:
			w.Minute, w.Len = next(181), next(181)
		}
		list = append(list, w)
	}
	return list
}

// begins is the first instant of a day, by what clocks tell at all instants about it: the first one of its first minute that they tell at all, or of the next day's.
func begins(t *testing.T, z api.Zone, day int) int {
	t.Helper()
	first := map[int]int{}
	for at := day*1440 - 1000; at < day*1440+1100; at++ {
		d, m, err := zone.Local(z, at)
		if err != api.OK {
			t.Fatalf("zone.Local(%v, %d): error %d", z, at, err)
		}
		k := (d-day)*1440 + m
		if _, known := first[k]; !known {
			first[k] = at
		}
	}
	for k := 0; ; k++ {
		if at, told := first[k]; told {
			return at
		}
	}
}

// listed is the spans that begin on some days: day by day, of each day window by window.
func listed(t *testing.T, c api.Config, first, last int) []api.Span {
	t.Helper()
	var list []api.Span
	for i := range (last - first + 1) * len(c.Windows) {
		w, day := c.Windows[i%len(c.Windows)], first+i/len(c.Windows)
		s, is, err := window.Span(c, w, day)
		if err != api.OK {
			t.Fatalf("window.Span(.., %v, %d): error %d", w, day, err)
		}
		if is {
			list = append(list, s)
		}
	}
	return list
}

// painted is the mode of each instant from one on up to another one: the weightier spans are painted over the others.
func painted(list []api.Span, from, to int) []int {
	modes := slices.Repeat([]int{none}, max(to-from, 0))
	order := slices.Clone(list)
	slices.SortStableFunc(order, func(a, b api.Span) int {
		return cmp.Or(a.Prio-b.Prio, a.From-b.From)
	})
	for _, s := range order {
		for at := max(s.From, from); at < min(s.To, to); at++ {
			modes[at-from] = s.Mode
		}
	}
	return modes
}

// pieces is what is painted, as a row.
func pieces(modes []int, from int) []api.Span {
	var row []api.Span
	for i, next := 0, 0; i < len(modes); i = next {
		for next = i; next < len(modes) && modes[next] == modes[i]; next++ {
		}
		if modes[i] != none {
			row = append(row, api.Span{From: from + i, To: from + next, Mode: modes[i]})
		}
	}
	return row
}

// whole is what a day's spans come to, painted from the first instant to the last one.
func whole(t *testing.T, c api.Config, day int) []api.Span {
	t.Helper()
	from, to := (day-11)*1440, (day+12)*1440 // no span of these days begins ahead, or ends behind
	return pieces(painted(listed(t, c, day-9, day+1), from, to), from)
}

// wantSpans holds Spans to a list.
func wantSpans(t *testing.T, c api.Config, first, last int, want ...api.Span) {
	t.Helper()
	if got, err := Spans(c, first, last); !slices.Equal(got, want) || err != api.OK {
		t.Fatalf("Spans(.., %d, %d) = %v, %d, want %v, of %v", first, last, got, err, want, c)
	}
}

// wantNoSpans holds Spans to an error.
func wantNoSpans(t *testing.T, c api.Config, first, last int, want api.Errno) {
	t.Helper()
	if got, err := Spans(c, first, last); len(got) != 0 || err != want {
		t.Fatalf("Spans(.., %d, %d) = %v, %d, want none, %d, of %v", first, last, got, err, want, c)
	}
}

// wantRow holds Row to a row.
func wantRow(t *testing.T, c api.Config, day int, want ...api.Span) {
	t.Helper()
	if got, err := Row(c, day); !slices.Equal(got, want) || err != api.OK {
		t.Fatalf("Row(.., %d) = %v, %d, want %v, of %v", day, got, err, want, c)
	}
}

// wantNoRow holds Row to an error.
func wantNoRow(t *testing.T, c api.Config, day int, want api.Errno) {
	t.Helper()
	if got, err := Row(c, day); len(got) != 0 || err != want {
		t.Fatalf("Row(.., %d) = %v, %d, want none, %d, of %v", day, got, err, want, c)
	}
}

// wantMode holds Mode to a mode, and since when it is.
func wantMode(t *testing.T, c api.Config, at, mode, since int) {
	t.Helper()
	if got, from, err := Mode(c, at); got != mode || from != since || err != api.OK {
		t.Fatalf("Mode(.., %d) = %d, %d, %d, want %d, %d, of %v", at, got, from, err, mode, since, c)
	}
}

// wantModes holds Mode to a mode at all instants from one on up to another one.
func wantModes(t *testing.T, c api.Config, from, to, mode, since int) {
	t.Helper()
	for at := from; at < to; at++ {
		wantMode(t, c, at, mode, since)
	}
}

// wantNoMode holds Mode to an error.
func wantNoMode(t *testing.T, c api.Config, at int, want api.Errno) {
	t.Helper()
	if got, from, err := Mode(c, at); got != 0 || from != 0 || err != want {
		t.Fatalf("Mode(.., %d) = %d, %d, %d, want noughts, %d, of %v", at, got, from, err, want, c)
	}
}

// overZones does something for each of the zones, many at a time, each as a test of its own.
func overZones(t *testing.T, do func(t *testing.T, z api.Zone)) {
	var group sync.WaitGroup
	list, workers := zones(), runtime.NumCPU()
	for w := range workers {
		group.Go(func() {
			for i := w; i < len(list); i += workers {
				t.Run("", func(t *testing.T) { do(t, list[i]) })
			}
		})
	}
	group.Wait()
}

func TestZonesAndHousesMayBe(t *testing.T) {
	for _, z := range zones() {
		if err := config.Check(house(z, ofEachKind()...)); err != api.OK {
			t.Errorf("config.Check of the zone %v = %d", z, err)
		}
	}
	for _, x := range wrongHouses() {
		if err := config.Check(x.c); err != x.err {
			t.Errorf("config.Check(%v) = %d, want %d", x.c, err, x.err)
		}
	}
	next := chance(7)
	for range 2000 {
		if c := house(north(), timetable(next, eve, 16)...); config.Check(c) != api.OK {
			t.Fatalf("config.Check(%v) = %d", c, config.Check(c))
		}
	}
	if number(1900, 1, 1) != opens || number(2400, 1, 1) != closes || number(2023, 9, 15) != eve {
		t.Errorf("the days are %d, %d, %d", number(1900, 1, 1), number(2400, 1, 1), number(2023, 9, 15))
	}
}

func TestP15_1DayByDayWindowByWindow(t *testing.T) {
	const day, at = 738783, 738783 * 1440
	a, b := weekly(1, 4, 127, 600, 60), weekly(2, 3, 127, 300, 30)
	spanA, spanB := api.Span{From: at + 600, To: at + 660, Mode: 1, Prio: 4}, api.Span{From: at + 300, To: at + 330, Mode: 2, Prio: 3}
	nextA, nextB := api.Span{From: at + 2040, To: at + 2100, Mode: 1, Prio: 4}, api.Span{From: at + 1740, To: at + 1770, Mode: 2, Prio: 3}
	// The windows are as the configuration has them, though the second one begins earlier.
	wantSpans(t, house(api.Zone{}, a, b), day, day, spanA, spanB)
	wantSpans(t, house(api.Zone{}, b, a), day, day, spanB, spanA)
	wantSpans(t, house(api.Zone{}, a, b), day, day+1, spanA, spanB, nextA, nextB)
	wantSpans(t, house(api.Zone{}, b, a), day, day+1, spanB, spanA, nextB, nextA)
	wantSpans(t, house(api.Zone{}, a, b), day+1, day+1, nextA, nextB)
	// A window of the later day stands behind those of the earlier one, wherever the configuration has it.
	d, spanD := dated(3, 99, day+1, 0, 10080), api.Span{From: at + 1440, To: at + 11520, Mode: 3, Prio: 99}
	wantSpans(t, house(api.Zone{}, d, a, b), day, day+1, spanA, spanB, spanD, nextA, nextB)
	wantSpans(t, house(api.Zone{}, a, d, b), day, day+1, spanA, spanB, nextA, spanD, nextB)
	wantSpans(t, house(api.Zone{}, a, b, d), day, day+1, spanA, spanB, nextA, nextB, spanD)
	wantSpans(t, house(api.Zone{}, a, b, d), day, day, spanA, spanB)
	// Windows that are the same are each told.
	wantSpans(t, house(api.Zone{}, a, a, b, a), day, day, spanA, spanA, spanB, spanA)
}

func TestP15_1OneOfEachKind(t *testing.T) {
	const at = eve * 1440
	rest := api.Span{From: at + 1082, To: at + 2*1440 + 1142, Mode: api.ModeShabbat, Prio: 5}
	ahead := func(days int) api.Span {
		return api.Span{From: at + days*1440 + 600, To: at + days*1440 + 630, Mode: api.ModePater, Prio: 7}
	}
	locked := func(days int) api.Span {
		return api.Span{From: at + days*1440 + 1200, To: at + days*1440 + 1800, Mode: api.ModeLock, Prio: 2}
	}
	cleaned := api.Span{From: at + 1740, To: at + 1750, Mode: api.ModeClean, Prio: 9}
	c := house(api.Zone{}, ofEachKind()...)
	wantSpans(t, c, eve, eve, rest, ahead(0), locked(0))
	wantSpans(t, c, eve, eve+1, rest, ahead(0), locked(0), ahead(1), cleaned, locked(1))
	wantSpans(t, c, eve-1, eve+5, rest, ahead(0), locked(0), ahead(1), cleaned, locked(1))
	wantSpans(t, c, eve+1, eve+1, ahead(1), cleaned, locked(1))
	slices.Reverse(c.Windows)
	wantSpans(t, c, eve, eve+1, locked(0), ahead(0), rest, locked(1), cleaned, ahead(1))
	// Each by clocks that are an hour ahead, and shifted by one more; but the sun knows no shift.
	for i, s := range []api.Span{rest, ahead(1), cleaned, locked(1)} {
		one := house(north(), ofEachKind()[i])
		s.From, s.To = s.From-120, s.To-120
		day := eve + 1
		if i == 0 {
			s.From, s.To, day = s.From+60, s.To+60, eve
		}
		wantSpans(t, one, day, day, s)
	}
	// The days of rest are those of the place: abroad the Sunday behind the eighth day of Tabernacles is one more.
	booths := number(2023, 10, 6)
	c = house(api.Zone{}, ofEachKind()[0])
	wantSpans(t, c, booths, booths, api.Span{From: booths*1440 + 1082, To: (booths+1)*1440 + 1142, Mode: api.ModeShabbat, Prio: 5})
	c.Abroad = true
	wantSpans(t, c, booths, booths, api.Span{From: booths*1440 + 1082, To: (booths+2)*1440 + 1142, Mode: api.ModeShabbat, Prio: 5})
}

func TestP15_1NoneBegins(t *testing.T) {
	wantSpans(t, house(north()), early, early)
	wantSpans(t, house(north()), eve, eve+30)
	wantSpans(t, house(north()), late-30, late)
	c := house(north(), ofEachKind()...)
	for _, days := range [][2]int{{eve + 2, eve + 2}, {eve + 2, eve + 6}, {eve - 4, eve - 1}} {
		wantSpans(t, c, days[0], days[1])
	}
	// A span that is still on has begun on another day.
	long := dated(1, 0, eve, 0, 10080)
	wantSpans(t, house(api.Zone{}, long), eve+1, eve+7)
	wantSpans(t, house(api.Zone{}, long), eve-7, eve-1)
	wantSpans(t, house(api.Zone{}, long), eve-7, eve+7, api.Span{From: eve * 1440, To: eve*1440 + 10080, Mode: 1})
}

func TestP15_1FirstAndLast(t *testing.T) {
	c := house(api.Zone{Base: 60}, weekly(3, 1, 127, 10, 20))
	at := func(day int) api.Span {
		return api.Span{From: day*1440 - 50, To: day*1440 - 30, Mode: 3, Prio: 1}
	}
	wantSpans(t, c, early, early, at(early))
	wantSpans(t, c, early, early+1, at(early), at(early+1))
	wantSpans(t, c, late, late, at(late))
	wantSpans(t, c, late-1, late, at(late-1), at(late))
	for _, days := range [][2]int{
		{early - 1, early - 1}, {early - 1, early}, {early - 1, early + 29}, {late + 1, late + 1}, {late, late + 1}, {late - 29, late + 1},
		{0, 0}, {-1, 1}, {1, 30}, {-eve, -eve}, {early - 1, early - 2}, {late + 2, late + 1}, {late + 1, early - 1}, {3651998, 3651998}, {api.MaxDay, api.MaxDay},
	} {
		wantNoSpans(t, c, days[0], days[1], api.ErrWindowDay)
	}
	// Windows on the very first and last days.
	d := house(north(), dated(1, 0, early, 1439, 5), dated(2, 0, late, 1439, 5), dated(3, 0, early-1, 0, 5), dated(4, 0, late+1, 0, 5))
	wantSpans(t, d, early, early+30, api.Span{From: early*1440 + 1379, To: early*1440 + 1384, Mode: 1})
	wantSpans(t, d, late-30, late, api.Span{From: late*1440 + 1319, To: late*1440 + 1324, Mode: 2}) // in October: clocks are shifted
}

func TestP15_1TheFirstIsNotAboveTheLast(t *testing.T) {
	c := house(api.Zone{}, always(1))
	for _, day := range []int{early, early + 1, eve, late - 1, late} {
		for _, above := range []int{1, 2, 30, 31, 1000, 3000000} {
			wantNoSpans(t, c, day, day-above, api.ErrWindowDay)
			wantNoSpans(t, c, day+above, day, api.ErrWindowDay)
		}
	}
	for _, far := range []int{api.MaxInt, api.MaxInt - 1, 1 << 32, api.MaxInt / 1440, api.MinInt, api.MinInt + 1, -1 << 32, api.MinInt / 1440} {
		for _, day := range []int{early, eve, late, 0, -1, 30, api.MinInt, api.MaxInt, far, far + 30, far - 30} {
			wantNoSpans(t, c, far, day, api.ErrWindowDay)
			wantNoSpans(t, c, day, far, api.ErrWindowDay)
		}
	}
}

func TestP15_1NoMoreThan31Days(t *testing.T) {
	c := house(api.Zone{}, weekly(2, 0, 127, 7, 8))
	for _, first := range []int{early, early + 1, onDay, offDay - 20, eve, late - 31, late - 30} {
		for more := range 31 {
			last := min(first+more, late)
			var want []api.Span
			for day := first; day <= last; day++ {
				want = append(want, api.Span{From: day*1440 + 7, To: day*1440 + 15, Mode: 2})
			}
			wantSpans(t, c, first, last, want...)
		}
		for _, more := range []int{31, 32, 33, 61, 62, 365, 1 << 20} {
			wantNoSpans(t, c, first, first+more, api.ErrWindowDay)
			wantNoSpans(t, house(api.Zone{}), first, first+more, api.ErrWindowDay) // though there would be none
		}
	}
}

func TestP15_1AsManyAsMayBe(t *testing.T) {
	var windows []api.Window
	for i := range api.MaxWindows {
		windows = append(windows, weekly(i%6, 99-i, 127, 1439-90*i, 10080))
	}
	c := house(api.Zone{Base: -300}, windows...)
	var want []api.Span
	for day := eve; day <= eve+30; day++ {
		for i := range api.MaxWindows {
			from := day*1440 + 1439 - 90*i + 300
			want = append(want, api.Span{From: from, To: from + 10080, Mode: i % 6, Prio: 99 - i})
		}
	}
	if len(want) != 496 {
		t.Fatalf("there are %d", len(want))
	}
	wantSpans(t, c, eve, eve+30, want...)
	wantNoSpans(t, c, eve, eve+31, api.ErrWindowDay)
	// So many are never too many to be resolved.
	if row, err := span.Resolve(want); err != api.OK || len(row) == 0 {
		t.Fatalf("span.Resolve of %d = %v, %d", len(want), row, err)
	}
}

func TestP15_1OrderOfErrors(t *testing.T) {
	for _, x := range wrongHouses() {
		for _, days := range [][2]int{{eve, eve}, {eve, eve + 30}, {eve, eve + 31}, {eve, eve - 1}, {early - 1, early}, {late, late + 1}, {api.MinInt, api.MaxInt}, {api.MaxInt, api.MinInt}} {
			wantNoSpans(t, x.c, days[0], days[1], x.err)
		}
	}
}

func TestP15_1BySamples(t *testing.T) {
	overZones(t, func(t *testing.T, z api.Zone) {
		next := chance(151)
		begun := 0
		for _, day := range append(turnDays(z, 2024), early+30, late-30, early+next(late-early-60), number(2024, 10, 10)) {
			for range 6 {
				c := house(z, timetable(next, day, 1+next(api.MaxWindows))...)
				c.Abroad = next(2) == 1
				first := max(day-next(20), early)
				last := min(first+next(31), late)
				want := listed(t, c, first, last)
				wantSpans(t, c, first, last, want...)
				begun += len(want)
			}
		}
		if begun < 500 {
			t.Fatalf("only %d begin", begun)
		}
	})
}

func TestP15_2NothingIs(t *testing.T) {
	for _, day := range []int{earlyRow, eve, onDay, offDay, lateRow} {
		wantRow(t, house(north()), day)
		wantRow(t, house(api.Zone{}, dated(1, 0, day-1, 0, 1440), dated(2, 0, day+1, 0, 10080)), day)
		wantRow(t, house(api.Zone{}, dated(1, 0, day-8, 1439, 10080), dated(2, 0, day-7, 0, 10080)), day)
	}
}

func TestP15_2OneSpan(t *testing.T) {
	const at = eve * 1440
	for _, x := range []struct{ minute, length, from, to int }{
		{0, 1, 0, 1}, {0, 1439, 0, 1439}, {0, 1440, 0, 1440}, {0, 1441, 0, 1440}, {0, 10080, 0, 1440},
		{700, 30, 700, 730}, {700, 739, 700, 1439}, {700, 740, 700, 1440}, {700, 741, 700, 1440}, {1439, 1, 1439, 1440}, {1439, 2, 1439, 1440}, {1439, 10080, 1439, 1440},
	} {
		for mode := api.ModeNormal; mode <= api.ModeDeliver; mode++ {
			for _, base := range []int{0, 60, -300, 840, -720} {
				// A span has a weight, a row has none.
				c := house(api.Zone{Base: base}, dated(mode, 1+mode, eve, x.minute, x.length))
				wantRow(t, c, eve, api.Span{From: at + x.from - base, To: at + x.to - base, Mode: mode})
			}
		}
	}
}

func TestP15_2SpansOverOneAnother(t *testing.T) {
	const at = eve * 1440
	in := func(mode, from, to int) api.Span { return api.Span{From: at + from, To: at + to, Mode: mode} }
	a, b, c, d, e := dated(1, 1, eve, 100, 600), dated(2, 3, eve, 200, 100), dated(3, 1, eve, 400, 100), dated(4, 1, eve, 400, 50), dated(5, 0, eve, 0, 800)
	// Of the same weight the later one is, and of those that begin at once the one that the configuration has last.
	wantRow(t, house(api.Zone{}, a, b, c, d, e), eve, in(5, 0, 100), in(1, 100, 200), in(2, 200, 300), in(1, 300, 400), in(4, 400, 450), in(3, 450, 500), in(1, 500, 700), in(5, 700, 800))
	wantRow(t, house(api.Zone{}, e, d, c, b, a), eve, in(5, 0, 100), in(1, 100, 200), in(2, 200, 300), in(1, 300, 400), in(3, 400, 500), in(1, 500, 700), in(5, 700, 800))
	// The weight goes ahead of how late a span begins, also over days.
	light, heavy := dated(1, 98, eve, 100, 600), dated(2, 99, eve-3, 50, 3*1440+150)
	for _, x := range []api.Config{house(api.Zone{}, light, heavy), house(api.Zone{}, heavy, light)} {
		wantRow(t, x, eve, in(2, 0, 200), in(1, 200, 700))
	}
	// How late a span begins goes ahead of where it stands, also over days.
	before, later := dated(1, 7, eve-1, 100, 2000), dated(2, 7, eve, 100, 100)
	for _, x := range []api.Config{house(api.Zone{}, before, later), house(api.Zone{}, later, before)} {
		wantRow(t, x, eve, in(1, 0, 100), in(2, 100, 200), in(1, 200, 660))
	}
	// What touches in one mode is one, whatever the weights.
	wantRow(t, house(api.Zone{}, dated(4, 1, eve, 10, 10), dated(4, 5, eve, 20, 10), dated(3, 5, eve, 30, 10), dated(3, 0, eve, 35, 15)), eve, in(4, 10, 30), in(3, 30, 50))
	// A mode of 0 is a mode like others.
	wantRow(t, house(api.Zone{}, always(3), dated(0, 1, eve, 600, 60)), eve, in(3, 0, 600), in(0, 600, 660), in(3, 660, 1440))
}

func TestP15_2OneOfEachKind(t *testing.T) {
	const at = eve * 1440
	in := func(mode, from, to int) api.Span { return api.Span{From: at + from, To: at + to, Mode: mode} }
	c := house(api.Zone{}, ofEachKind()...)
	wantRow(t, c, eve-1)
	wantRow(t, c, eve, in(2, 600, 630), in(1, 1082, 1440))
	wantRow(t, c, eve+1, in(1, 1440, 1740), in(4, 1740, 1750), in(1, 1750, 2040), in(2, 2040, 2070), in(1, 2070, 2880))
	wantRow(t, c, eve+2, in(1, 2880, 4022)) // the lock of the Saturday ends within it
	wantRow(t, c, eve+3)
	wantRow(t, c, eve+8, in(1, 8*1440, 8*1440+1142), in(3, 8*1440+1200, 9*1440)) // a Saturday that is no feast
	wantRow(t, c, eve+9, in(3, 9*1440, 9*1440+360), in(1, 9*1440+1082, 10*1440)) // the eve of the Day of Atonement
}

func TestP15_2BegunDaysAhead(t *testing.T) {
	const at = eve * 1440
	// A span that has begun ahead is in the row as far as it reaches, and one of the next day is not.
	for ahead := range 10 {
		for _, minute := range []int{0, 1, 2, 700, 1438, 1439} {
			for _, length := range []int{1, 1439, 1440, 1441, 1440*ahead - minute, 1440*ahead - minute + 1, 1440*ahead - minute + 700, 1440*ahead - minute + 1440, 10079, 10080} {
				if length < 1 || length > api.MaxLen {
					continue
				}
				c := house(api.Zone{}, dated(2, 1, eve-ahead, minute, length))
				from := at - ahead*1440 + minute
				if to := from + length; to <= at {
					wantRow(t, c, eve)
				} else {
					wantRow(t, c, eve, api.Span{From: max(from, at), To: min(to, at+1440), Mode: 2})
				}
			}
		}
	}
	for _, minute := range []int{0, 1, 700, 1439} {
		wantRow(t, house(api.Zone{}, dated(2, 1, eve+1, minute, 10080)), eve)
	}
	// One span of each of the days that reaches into the row, each a minute farther, and two that don't: all are there.
	c := house(api.Zone{},
		dated(1, 9, eve-7, 1, 10080), dated(2, 8, eve-6, 2, 6*1440), dated(3, 7, eve-5, 3, 5*1440), dated(4, 6, eve-4, 4, 4*1440), dated(5, 5, eve-3, 5, 3*1440),
		dated(1, 4, eve-2, 6, 2*1440), dated(2, 3, eve-1, 7, 1440), dated(3, 2, eve, 7, 1), dated(4, 1, eve+1, 0, 10080), dated(5, 99, eve-8, 0, 10080), dated(5, 99, eve-9, 1439, 10080))
	var want []api.Span
	for i, mode := range []int{1, 2, 3, 4, 5, 1, 2, 3} {
		want = append(want, api.Span{From: at + i, To: at + i + 1, Mode: mode})
	}
	wantRow(t, c, eve, want...)
}

func TestP15_2TheLongestSpans(t *testing.T) {
	const at = onDay * 1440
	// By clocks that are not set a span reaches seven days ahead but for the day's first minute.
	wantRow(t, house(api.Zone{}, dated(1, 0, onDay-7, 0, 10080)), onDay)
	wantRow(t, house(api.Zone{}, dated(1, 0, onDay-7, 1, 10080)), onDay, api.Span{From: at, To: at + 1, Mode: 1})
	wantRow(t, house(api.Zone{}, dated(1, 0, onDay-7, 1439, 10080)), onDay, api.Span{From: at, To: at + 1439, Mode: 1})
	wantRow(t, house(api.Zone{}, dated(1, 0, onDay-8, 1439, 10080)), onDay)
	// Where clocks were set forward in between it reaches farther into the day, also one that began eight days ahead.
	z := api.Zone{Shift: 120, On: api.Turn{Month: 3, Week: 5, Weekday: 6, Minute: 120}, Off: api.Turn{Month: 10, Week: 5}} // on the Saturday ahead
	wantRow(t, house(z, dated(1, 0, onDay-8, 1319, 10080)), onDay)
	wantRow(t, house(z, dated(1, 0, onDay-8, 1320, 10080)), onDay)
	wantRow(t, house(z, dated(1, 0, onDay-8, 1321, 10080)), onDay, api.Span{From: at - 120, To: at - 119, Mode: 1})
	wantRow(t, house(z, dated(1, 0, onDay-8, 1439, 10080)), onDay, api.Span{From: at - 120, To: at - 1, Mode: 1})
	wantRow(t, house(z, dated(1, 0, onDay-7, 0, 10080)), onDay, api.Span{From: at - 120, To: at, Mode: 1})
	wantRow(t, house(z, dated(1, 0, onDay-9, 1439, 10080)), onDay)
	// Where they were set back, less far.
	off := offDay
	wantRow(t, house(z, dated(1, 0, off-7, 1, 10080)), off, api.Span{From: off*1440 - 120, To: off*1440 - 119, Mode: 1})
	wantRow(t, house(z, dated(1, 0, off-6, 120, 10080)), off+1)
	wantRow(t, house(z, dated(1, 0, off-6, 121, 10080)), off+1, api.Span{From: (off + 1) * 1440, To: (off+1)*1440 + 1, Mode: 1})
	wantRow(t, house(z, dated(1, 0, off-6, 1439, 10080)), off+1, api.Span{From: (off + 1) * 1440, To: (off+1)*1440 + 1319, Mode: 1})
	// The span of a skipped minute begins with the next one that is told, and reaches into the eighth day behind.
	m, wednesday := midnight(), number(2023, 3, 1)
	set := wednesday*1440 + 1380 + 720
	for _, x := range []struct{ minute, reaches int }{{1319, 0}, {1320, 0}, {1321, 1}, {1379, 59}, {1380, 60}, {1381, 60}, {1439, 60}} {
		c := house(m, dated(1, 0, wednesday, x.minute, 10080))
		begins := set + 7*1440 - 60
		if x.reaches > 0 {
			wantRow(t, c, wednesday+8, api.Span{From: begins, To: begins + x.reaches, Mode: 1})
		} else {
			wantRow(t, c, wednesday+8)
		}
		wantRow(t, c, wednesday+9)
	}
}

func TestP15_2WhenClocksAreSet(t *testing.T) {
	in := func(day, mode, from, to int) api.Span {
		return api.Span{From: day*1440 + from, To: day*1440 + to, Mode: mode}
	}
	z := north()
	for _, x := range []struct{ day, from, to int }{
		{onDay - 1, -60, 1380}, {onDay, -60, 1320}, {onDay + 1, -120, 1320}, // 24 hours, 23, 24
		{offDay - 1, -120, 1320}, {offDay, -120, 1380}, {offDay + 1, -60, 1380}, // 24 hours, 25, 24
	} {
		wantRow(t, house(z, dated(2, 0, x.day-3, 0, 10080)), x.day, in(x.day, 2, x.from, x.to))
		wantRow(t, house(z, dated(2, 0, x.day, 0, 1)), x.day, in(x.day, 2, x.from, x.from+1))
		wantRow(t, house(z, dated(2, 0, x.day, 1439, 10080)), x.day, in(x.day, 2, x.to-1, x.to))
	}
	// Windows of 24 hours are not enough for a day of 25.
	wantRow(t, house(z, always(2)), onDay, in(onDay, 2, -60, 1320))
	wantRow(t, house(z, always(2)), offDay, in(offDay, 2, -120, 1320))
	wantRow(t, house(z, always(2)), offDay+1, in(offDay+1, 2, -60, 1380))
	// A minute that is skipped, and one that is told twice.
	wantRow(t, house(z, dated(3, 0, onDay, 150, 10), dated(4, 0, onDay, 179, 20)), onDay, in(onDay, 4, 60, 80))
	wantRow(t, house(z, dated(4, 0, onDay, 130, 20), dated(3, 0, onDay, 150, 10)), onDay, in(onDay, 3, 60, 70), in(onDay, 4, 70, 80))
	wantRow(t, house(z, dated(3, 0, offDay, 150, 10)), offDay, in(offDay, 3, 30, 40))
	wantRow(t, house(z, dated(3, 0, offDay, 179, 62)), offDay, in(offDay, 3, 59, 121))
	wantRow(t, house(z, dated(3, 0, offDay, 180, 10)), offDay, in(offDay, 3, 120, 130))
	// The other half of the earth, where the shift lasts over the year's end.
	on, off := number(2022, 10, 2), number(2023, 4, 2)
	for _, x := range []struct{ day, from, to int }{{on - 1, -630, 810}, {on, -630, 780}, {on + 1, -660, 780}, {number(2022, 12, 31), -660, 780}, {number(2023, 1, 1), -660, 780}, {off - 1, -660, 780}, {off, -660, 810}, {off + 1, -630, 810}} {
		wantRow(t, house(south(), dated(2, 0, x.day-3, 0, 10080)), x.day, in(x.day, 2, x.from, x.to))
	}
}

func TestP15_2SetAboutMidnight(t *testing.T) {
	in := func(day, mode, from, to int) api.Span {
		return api.Span{From: day*1440 + from, To: day*1440 + to, Mode: mode}
	}
	wednesday, tuesday := number(2023, 3, 1), number(2023, 10, 31)
	for _, x := range []struct {
		z             api.Zone
		day, from, to int
	}{
		{midnight(), wednesday - 1, 720, 2160}, {midnight(), wednesday, 720, 2100}, {midnight(), wednesday + 1, 660, 2040}, {midnight(), wednesday + 2, 600, 2040}, // 23 hours each, in the middle
		{midnight(), tuesday - 1, 600, 2040}, {midnight(), tuesday, 600, 2160}, {midnight(), tuesday + 1, 720, 2160}, // 26 hours
		{again(), offDay - 1, -60, 1380}, {again(), offDay, -60, 1380}, {again(), offDay + 1, -60, 1440}, {again(), offDay + 2, 0, 1440}, // all of the hour more is the Monday's
		{oneMinute(1439, 0), onDay - 1, -60, 1380}, {oneMinute(1439, 0), onDay, -60, 1379}, {oneMinute(1439, 0), onDay + 1, -61, 1379}, // without its last minute
		{oneMinute(1439, 0), offDay - 1, -61, 1379}, {oneMinute(1439, 0), offDay, -61, 1380}, {oneMinute(1439, 0), offDay + 1, -60, 1380}, // with its first one twice
		{oneMinute(0, 1439), onDay - 1, -60, 1380}, {oneMinute(0, 1439), onDay, -60, 1379}, {oneMinute(0, 1439), onDay + 1, -61, 1379}, // without its first minute
		{oneMinute(0, 1439), offDay - 1, -61, 1379}, {oneMinute(0, 1439), offDay, -61, 1380}, {oneMinute(0, 1439), offDay + 1, -60, 1380}, // with its last one twice
	} {
		wantRow(t, house(x.z, dated(2, 0, x.day-3, 0, 10080)), x.day, in(x.day, 2, x.from, x.to))
		wantRow(t, house(x.z, dated(2, 0, x.day, 0, 1)), x.day, in(x.day, 2, x.from, x.from+1))
		wantRow(t, house(x.z, dated(2, 0, x.day-1, 0, 1), dated(2, 0, x.day+1, 0, 10080)), x.day)
	}
	// The window of a last minute that is skipped is the next day's, and that of a first one begins a minute late.
	wantRow(t, house(oneMinute(1439, 0), dated(1, 0, onDay, 1439, 5)), onDay)
	wantRow(t, house(oneMinute(1439, 0), dated(1, 0, onDay, 1439, 5)), onDay+1, in(onDay+1, 1, -61, -56))
	wantRow(t, house(oneMinute(0, 1439), dated(1, 0, onDay, 0, 5)), onDay, in(onDay, 1, -60, -55))
	wantRow(t, house(oneMinute(0, 1439), dated(1, 0, onDay, 1, 5)), onDay, in(onDay, 1, -60, -55))
	// A minute that is told twice counts when it is first told.
	wantRow(t, house(oneMinute(1439, 0), dated(1, 0, offDay, 0, 1)), offDay, in(offDay, 1, -61, -60))
	wantRow(t, house(oneMinute(0, 1439), dated(1, 0, offDay, 1439, 1)), offDay, in(offDay, 1, 1378, 1379))
	wantRow(t, house(oneMinute(0, 1439), dated(1, 0, offDay, 1439, 3)), offDay, in(offDay, 1, 1378, 1380))
	wantRow(t, house(oneMinute(0, 1439), dated(1, 0, offDay, 1439, 3)), offDay+1, in(offDay+1, 1, -60, -59))
	// The Sunday is told again when the Monday has begun: what is then is in the Monday's row alone.
	c := house(again(), dated(1, 0, offDay, 1430, 5), dated(2, 0, offDay, 1439, 100), dated(3, 1, offDay+1, 0, 50))
	wantRow(t, c, offDay, in(offDay, 1, 1370, 1375), in(offDay, 2, 1379, 1380))
	wantRow(t, c, offDay+1, in(offDay+1, 3, -60, -10), in(offDay+1, 2, -10, 39))
	wantRow(t, house(again(), always(2)), offDay, in(offDay, 2, -60, 1380))
	wantRow(t, house(again(), always(2)), offDay+1, in(offDay+1, 2, -60, 1380))
}

func TestP15_2SameMomentOfTwoDays(t *testing.T) {
	// The last minute of a Wednesday and the first one of the Thursday are skipped, so their windows begin at once: the Thursday's stands last, wherever the configuration has it.
	wednesday := number(2023, 3, 1)
	at := wednesday*1440 + 2100
	first, second := dated(1, 3, wednesday, 1439, 50), dated(2, 3, wednesday+1, 0, 40)
	for _, c := range []api.Config{house(midnight(), first, second), house(midnight(), second, first)} {
		wantRow(t, c, wednesday+1, api.Span{From: at, To: at + 40, Mode: 2}, api.Span{From: at + 40, To: at + 50, Mode: 1})
		wantRow(t, c, wednesday)
		wantMode(t, c, at, 2, at)
	}
}

func TestP15_2FirstAndLast(t *testing.T) {
	for _, z := range []api.Zone{{}, {Base: 840}, {Base: -720}, north(), south()} {
		for _, day := range []int{earlyRow, earlyRow + 1, lateRow - 1, lateRow} {
			from, to := begins(t, z, day), begins(t, z, day+1)
			wantRow(t, house(z), day)
			wantRow(t, house(z, always(4)), day, api.Span{From: from, To: to, Mode: 4})
			wantRow(t, house(z, dated(4, 0, day-7, 1, 10080)), day, api.Span{From: from, To: from + 1, Mode: 4})
			wantRow(t, house(z, dated(4, 0, day, 1439, 10080), dated(3, 9, day+1, 0, 1), dated(2, 9, day-9, 0, 1)), day, api.Span{From: to - 1, To: to, Mode: 4})
		}
		for _, day := range []int{
			earlyRow - 1, earlyRow - 2, early, early - 1, 1, 0, -1, -earlyRow, -eve, lateRow + 1, lateRow + 2, late + 1, 3651998, api.MaxDay, api.MaxDay + 1,
			1<<32 + eve, -1<<32 + eve, api.MinInt, api.MinInt + 1, api.MinInt + 9, api.MinInt / 1440, api.MaxInt / 1440, api.MaxInt - 1, api.MaxInt,
		} {
			wantNoRow(t, house(z, always(4)), day, api.ErrWindowDay)
			wantNoRow(t, house(z), day, api.ErrWindowDay)
		}
	}
}

func TestP15_2OrderOfErrors(t *testing.T) {
	for _, x := range wrongHouses() {
		for _, day := range []int{eve, earlyRow, earlyRow - 1, lateRow, lateRow + 1, 0, api.MinInt, api.MaxInt} {
			wantNoRow(t, x.c, day, x.err)
		}
	}
}

func TestP15_2BySamples(t *testing.T) {
	overZones(t, func(t *testing.T, z api.Zone) {
		next := chance(152)
		many := 0
		for _, day := range append(turnDays(z, 2024), earlyRow, lateRow, earlyRow+next(lateRow-earlyRow), number(2024, 10, 3), number(2024, 10, 17)) {
			from, to := begins(t, z, day), begins(t, z, day+1)
			for range 16 {
				c := house(z, timetable(next, day, 1+next(api.MaxWindows))...)
				c.Abroad = next(2) == 1
				want := pieces(painted(listed(t, c, day-9, day+1), from, to), from)
				wantRow(t, c, day, want...)
				many += len(want)
			}
		}
		if many < 100 {
			t.Fatalf("only %d spans in all rows", many)
		}
	})
}

func TestP15_3AboutASpan(t *testing.T) {
	for _, base := range []int{0, 60, -300, 840, -720} {
		for mode := api.ModeNormal; mode <= api.ModeDeliver; mode++ {
			for _, x := range []struct{ minute, length int }{{0, 1}, {0, 1440}, {700, 1}, {700, 30}, {1439, 1}, {1439, 2}, {1200, 600}, {0, 10080}, {1439, 10080}} {
				c := house(api.Zone{Base: base}, dated(mode, 99, eve, x.minute, x.length))
				from := eve*1440 + x.minute - base
				to := from + x.length
				wantMode(t, c, from-1, api.ModeNormal, 0)
				wantMode(t, c, from, mode, from)
				wantMode(t, c, (from+to)/2, mode, from)
				wantMode(t, c, to-1, mode, from)
				wantMode(t, c, to, api.ModeNormal, 0)
			}
		}
	}
	wantModes(t, house(north()), eve*1440, eve*1440+1500, api.ModeNormal, 0)
}

func TestP15_3SpansThatTouch(t *testing.T) {
	const at = eve * 1440
	first, same, other, later := dated(1, 1, eve, 100, 100), dated(1, 0, eve, 200, 100), dated(2, 5, eve, 200, 100), dated(1, 1, eve, 201, 100)
	for _, c := range []api.Config{house(api.Zone{}, first, same), house(api.Zone{}, same, first)} {
		wantMode(t, c, at+99, 0, 0)
		wantModes(t, c, at+100, at+300, 1, at+100) // one span goes on as the other one
		wantMode(t, c, at+300, 0, 0)
	}
	c := house(api.Zone{}, first, other)
	wantModes(t, c, at+100, at+200, 1, at+100)
	wantModes(t, c, at+200, at+300, 2, at+200)
	c = house(api.Zone{}, first, later)
	wantModes(t, c, at+100, at+200, 1, at+100)
	wantMode(t, c, at+200, 0, 0)
	wantModes(t, c, at+201, at+301, 1, at+201)
	// A weightier one cuts it in two, but for one of its own mode.
	long := dated(1, 1, eve-1, 0, 2880)
	c = house(api.Zone{}, long, other)
	wantMode(t, c, at+199, 1, at-1440)
	wantModes(t, c, at+200, at+300, 2, at+200)
	wantModes(t, c, at+300, at+1440, 1, at+300)
	c = house(api.Zone{}, long, dated(1, 5, eve, 200, 100))
	wantModes(t, c, at+150, at+350, 1, at-1440)
	// So does one of the mode 0, which is told since when it is.
	c = house(api.Zone{}, long, dated(0, 5, eve, 200, 100))
	wantModes(t, c, at+200, at+300, 0, at+200)
	wantMode(t, c, at+300, 1, at+300)
	// Spans of two days touch at midnight.
	c = house(api.Zone{Base: 60}, dated(3, 0, eve, 1300, 140), dated(3, 2, eve+1, 0, 60))
	wantModes(t, c, at+1240, at+1440, 3, at+1240)
	wantMode(t, c, at+1440, 0, 0)
}

func TestP15_3SinceDaysAhead(t *testing.T) {
	const at = eve * 1440
	for ahead := range 8 {
		for _, minute := range []int{1, 700, 1439} {
			c := house(api.Zone{}, dated(2, 1, eve-ahead, minute, 10080), dated(3, 0, eve+1, 0, 1440))
			from := at - ahead*1440 + minute
			for _, instant := range []int{at, at + 1, at + 700, at + 1439} {
				if from <= instant && instant < from+10080 {
					wantMode(t, c, instant, 2, from)
				} else {
					wantMode(t, c, instant, 0, 0)
				}
			}
		}
	}
	// About days of rest.
	c := house(api.Zone{}, ofEachKind()[0])
	wantMode(t, c, at+1081, 0, 0)
	wantModes(t, c, at+1082, at+2*1440+1142, 1, at+1082)
	wantMode(t, c, at+2*1440+1142, 0, 0)
}

func TestP15_3SinceTheNinthDayAhead(t *testing.T) {
	// What goes on from day to day is told since the ninth day ahead of that which clocks tell, though it may have been for longer.
	for _, base := range []int{0, 60, -300, 840, -720} {
		for _, minute := range []int{0, 1, 720, 1439} {
			c := house(api.Zone{Base: base}, weekly(2, 0, 127, minute, 1440))
			for _, day := range []int{onDay, eve, offDay} {
				for _, k := range []int{0, 1, 719, 720, 1438, 1439} {
					wantMode(t, c, day*1440+k-base, 2, (day-9)*1440+minute-base)
				}
			}
		}
	}
	// What began on the ninth day ahead, and not on the tenth.
	var windows []api.Window
	for i := range api.MaxWindows {
		windows = append(windows, dated(5, i, eve+i, 600, 1440))
	}
	c := house(api.Zone{}, windows...)
	at := eve*1440 + 600
	wantMode(t, c, at-1, 0, 0)
	for day := range api.MaxWindows {
		for _, k := range []int{0, 1, 839} {
			wantMode(t, c, at+day*1440+k, 5, at+max(day-9, 0)*1440)
		}
		for _, k := range []int{840, 1439} { // the next day, by clocks
			wantMode(t, c, at+day*1440+k, 5, at+max(day-8, 0)*1440)
		}
	}
	wantMode(t, c, at+16*1440, 0, 0)
}

func TestP15_3ByTheDayThatClocksTell(t *testing.T) {
	// By the day that clocks tell it is told since when a mode that goes on is, so that the day shows.
	july, january := number(2023, 7, 12), number(2023, 1, 17)
	for _, x := range []struct {
		z          api.Zone
		day, ahead int // by how many minutes clocks are ahead
	}{
		{api.Zone{}, july, 0}, {api.Zone{Base: 840}, july, 840}, {api.Zone{Base: -720}, july, -720}, {api.Zone{Base: -1}, july, -1}, {api.Zone{Base: 1}, july, 1},
		{north(), july, 120}, {north(), january, 60}, {south(), july, 630}, {south(), january, 660}, {west(), july, -240}, {west(), january, -300}, {midnight(), july, -600}, {midnight(), january, -720}, {again(), july, 60}, {again(), january, 0},
		{api.Zone{Base: -60, Shift: 60, On: api.Turn{Month: 3, Week: 5}, Off: api.Turn{Month: 10, Week: 5}}, july, 0},
		{api.Zone{Base: -30, Shift: 60, On: api.Turn{Month: 3, Week: 5}, Off: api.Turn{Month: 10, Week: 5}}, july, 30},
	} {
		c := house(x.z, always(2))
		for _, day := range []int{x.day, x.day + 1, x.day + 5} {
			at := day*1440 - x.ahead
			for _, k := range []int{0, 1, 59, 60, 119, 120, 1319, 1320, 1379, 1380, 1439} {
				wantMode(t, c, at+k, 2, at-9*1440)
			}
			wantMode(t, c, at-1, 2, at-10*1440)
			wantMode(t, c, at+1440, 2, at-8*1440)
		}
	}
}

func TestP15_3WhenClocksAreSet(t *testing.T) {
	const on, off = onDay * 1440, offDay * 1440
	// The clocks skip from 2:00 to 3:00, an hour behind the day 738605's beginning.
	for _, minute := range []int{120, 121, 150, 179, 180} {
		c := house(north(), dated(3, 0, onDay, minute, 10))
		wantMode(t, c, on+59, 0, 0)
		wantModes(t, c, on+60, on+70, 3, on+60)
		wantMode(t, c, on+70, 0, 0)
	}
	// They tell the minutes from 2:00 to 3:00 twice, the first time from the day 738822's beginning on.
	for _, x := range []struct{ minute, length, from int }{{119, 1, -1}, {120, 1, 0}, {150, 15, 30}, {120, 60, 0}, {120, 61, 0}, {120, 120, 0}, {179, 1, 59}, {179, 60, 59}, {179, 61, 59}, {179, 62, 59}, {180, 10, 120}} {
		c := house(north(), dated(3, 0, offDay, x.minute, x.length))
		from := off + x.from
		to := from + x.length
		wantModes(t, c, off-10, from, 0, 0)
		wantModes(t, c, from, to, 3, from)
		wantModes(t, c, to, off+200, 0, 0)
	}
	// The day's last hour is none of a window of 24 hours.
	c := house(north(), always(2))
	wantMode(t, c, off+1319, 2, off-9*1440-120)
	wantModes(t, c, off+1320, off+1380, 0, 0)
	wantMode(t, c, off+1380, 2, off+1380)
	wantMode(t, c, off+10*1440+1379, 2, off+1380)
	wantMode(t, c, off+10*1440+1380, 2, off+2*1440-60)
	// On a day of 23 two of them lie over one another.
	wantModes(t, c, on+1300, on+1320, 2, on-9*1440-60)
	wantModes(t, c, on+1320, on+1390, 2, on-8*1440-60)
}

func TestP15_3SetBackOverMidnight(t *testing.T) {
	const off = offDay * 1440
	// The Monday's first half hour is told, the Sunday's last one again, and the Monday's first one again.
	c := house(again(), dated(4, 0, offDay+1, 0, 90))
	wantMode(t, c, off+1379, 0, 0)
	wantModes(t, c, off+1380, off+1470, 4, off+1380) // though the Sunday is told again, when the span of the next day has begun
	wantMode(t, c, off+1470, 0, 0)
	// A minute that is told again is not in a window of it.
	c = house(again(), dated(2, 0, offDay, 1409, 1), dated(5, 0, offDay, 1410, 1), dated(4, 0, offDay+1, 29, 1), dated(3, 0, offDay+1, 30, 1))
	for minute, mode := range map[int]int{1348: 0, 1349: 2, 1350: 5, 1351: 0, 1408: 0, 1409: 4, 1410: 0, 1411: 0, 1439: 0, 1440: 0, 1469: 0, 1470: 3, 1471: 0} {
		if mode == 0 {
			wantMode(t, c, off+minute, 0, 0)
		} else {
			wantMode(t, c, off+minute, mode, off+minute)
		}
	}
	// Spans of both days lie over one another.
	c = house(again(), dated(2, 5, offDay+1, 10, 30), dated(1, 0, offDay, 1430, 100))
	wantModes(t, c, off+1370, off+1390, 1, off+1370)
	wantModes(t, c, off+1390, off+1420, 2, off+1390)
	wantModes(t, c, off+1420, off+1470, 1, off+1420)
	wantMode(t, c, off+1470, 0, 0)
	// As the day goes back so does since when a mode is that goes on.
	c = house(again(), always(2))
	sunday, monday := off-9*1440-60, off-8*1440-60
	wantModes(t, c, off+1300, off+1380, 2, sunday)
	wantModes(t, c, off+1380, off+1410, 2, monday)
	wantModes(t, c, off+1410, off+1440, 2, sunday)
	wantModes(t, c, off+1440, off+1500, 2, monday)
	wantMode(t, c, off+2819, 2, monday)
	wantModes(t, c, off+2820, off+2880, 0, 0)
	wantMode(t, c, off+2880, 2, off+2880)
}

func TestP15_3SetAboutMidnight(t *testing.T) {
	// A Tuesday whose first two hours are told twice.
	tuesday := number(2023, 10, 31) * 1440
	c := house(midnight(), always(2))
	wantModes(t, c, tuesday+500, tuesday+600, 2, tuesday-10*1440+600)
	wantModes(t, c, tuesday+600, tuesday+900, 2, tuesday-9*1440+600)
	for _, length := range []int{1, 119, 120, 121, 200} {
		c = house(midnight(), dated(3, 0, tuesday/1440, 0, length))
		wantMode(t, c, tuesday+599, 0, 0)
		wantModes(t, c, tuesday+600, tuesday+600+length, 3, tuesday+600)
		wantMode(t, c, tuesday+600+length, 0, 0)
	}
	// A Wednesday without its last hour, and the Thursday without its first one.
	wednesday := number(2023, 3, 1) * 1440
	c = house(midnight(), always(2))
	wantMode(t, c, wednesday+2099, 2, wednesday-9*1440+720)
	wantMode(t, c, wednesday+2100, 2, wednesday-8*1440+720)
	for _, w := range []api.Window{dated(3, 0, wednesday/1440, 1380, 10), dated(3, 0, wednesday/1440, 1439, 10), dated(3, 0, wednesday/1440+1, 0, 10), dated(3, 0, wednesday/1440+1, 60, 10)} {
		c = house(midnight(), w)
		wantMode(t, c, wednesday+2099, 0, 0)
		wantModes(t, c, wednesday+2100, wednesday+2110, 3, wednesday+2100)
		wantMode(t, c, wednesday+2110, 0, 0)
	}
	// A day's last minute that is skipped, and one that is told twice; likewise a first one.
	const on, off = onDay * 1440, offDay * 1440
	for _, x := range []struct {
		z    api.Zone
		w    api.Window
		from int
	}{
		{oneMinute(1439, 0), dated(3, 0, onDay, 1438, 1), on + 1378}, {oneMinute(1439, 0), dated(3, 0, onDay, 1439, 1), on + 1379}, {oneMinute(1439, 0), dated(3, 0, onDay+1, 0, 1), on + 1379},
		{oneMinute(0, 1439), dated(3, 0, offDay, 1438, 1), off + 1377}, {oneMinute(0, 1439), dated(3, 0, offDay, 1439, 1), off + 1378}, {oneMinute(0, 1439), dated(3, 0, offDay+1, 0, 1), off + 1380},
		{oneMinute(0, 1439), dated(3, 0, onDay-1, 1439, 1), on - 61}, {oneMinute(0, 1439), dated(3, 0, onDay, 0, 1), on - 60}, {oneMinute(0, 1439), dated(3, 0, onDay, 1, 1), on - 60},
		{oneMinute(1439, 0), dated(3, 0, offDay-1, 1439, 1), off - 62}, {oneMinute(1439, 0), dated(3, 0, offDay, 0, 1), off - 61}, {oneMinute(1439, 0), dated(3, 0, offDay, 1, 1), off - 59},
	} {
		c = house(x.z, x.w)
		wantModes(t, c, x.from-4, x.from, 0, 0)
		wantMode(t, c, x.from, 3, x.from)
		wantModes(t, c, x.from+1, x.from+5, 0, 0)
	}
}

func TestP15_3YearsThatAreServed(t *testing.T) {
	for _, z := range zones() {
		first, behind := opens*1440-z.Base, closes*1440-z.Base
		clean := house(z, always(api.ModeClean), weekly(api.ModeClean, 9, 127, 720, 1440))
		for _, c := range []api.Config{house(z), clean, house(z, always(api.ModeNormal), ofEachKind()[0])} {
			for _, more := range []int{1, 2, 60, 120, 840, 1440, 100000} {
				wantMode(t, c, first-more, api.ModeLock, 0)
				wantMode(t, c, behind+more-1, api.ModeLock, 0)
			}
		}
		for _, at := range []int{first, first + 1, first + 840, behind - 840, behind - 2, behind - 1} {
			wantMode(t, house(z), at, api.ModeNormal, 0)
			day, _, _ := zone.Local(z, at)
			since, _ := window.Moment(z, day-9, 0)
			wantMode(t, clean, at, api.ModeClean, since)
		}
	}
	// By hand, with bases of both signs.
	for _, base := range []int{0, 1, -1, 60, 840, -720} {
		c := house(api.Zone{Base: base}, always(5))
		wantMode(t, c, opens*1440-base-1, api.ModeLock, 0)
		wantMode(t, c, opens*1440-base, 5, (opens-9)*1440-base)
		wantMode(t, c, closes*1440-base-1, 5, (closes-10)*1440-base)
		wantMode(t, c, closes*1440-base, api.ModeLock, 0)
	}
	// Shifted over the turn of the year: the clocks tell the next year half an hour ahead of unshifted time, by which it is served.
	c := house(south(), always(5))
	wantModes(t, c, opens*1440-670, opens*1440-630, api.ModeLock, 0)
	wantMode(t, c, opens*1440-630, 5, (opens-9)*1440-660)
	wantMode(t, c, closes*1440-661, 5, (closes-10)*1440-660)
	wantModes(t, c, closes*1440-660, closes*1440-630, 5, (closes-9)*1440-660)
	wantMode(t, c, closes*1440-630, api.ModeLock, 0)
	// A span that begins ahead of the years that are served, and one that goes on behind them.
	c = house(api.Zone{Base: 60}, dated(1, 0, opens-3, 5, 10080), dated(2, 0, closes-3, 5, 10080))
	wantMode(t, c, opens*1440-61, api.ModeLock, 0)
	wantMode(t, c, opens*1440-60, 1, (opens-3)*1440-55)
	wantMode(t, c, closes*1440-61, 2, (closes-3)*1440-55)
	wantMode(t, c, closes*1440-60, api.ModeLock, 0)
}

func TestP15_3NotServed(t *testing.T) {
	for _, z := range []api.Zone{{}, {Base: 840}, {Base: -720}, north(), south(), west(), midnight()} {
		for _, c := range []api.Config{house(z), house(z, always(1)), house(z, ofEachKind()...)} {
			for _, at := range []int{
				api.MinInt, api.MinInt + 1, api.MinInt + 720, api.MinInt + 721, api.MinInt / 1440, -1 << 32, -eve * 1440, -1, 0, 1, 1440, eve, api.MinTime - 1, api.MinTime, api.MinTime + 1, early * 1440, 1000000,
				(closes + 1) * 1440, late * 1440, api.MaxTime - 1, api.MaxTime, api.MaxTime + 1, api.MaxTime + 840, 1<<32 + eve*1440, api.MaxInt / 1440, api.MaxInt - 840, api.MaxInt - 839, api.MaxInt - 1, api.MaxInt,
			} {
				wantMode(t, c, at, api.ModeLock, 0)
			}
		}
	}
}

func TestP15_3OrderOfErrors(t *testing.T) {
	for _, x := range wrongHouses() {
		for _, at := range []int{eve * 1440, opens*1440 - 1000, closes*1440 + 1000, api.MinTime - 1, api.MaxTime + 1, 0, api.MinInt, api.MaxInt} {
			wantNoMode(t, x.c, at, x.err)
		}
	}
}

// sampledAt are instants about the bounds of a row's spans and of a day, and some by chance.
func sampledAt(next func(below int) int, row []api.Span, from, to int) []int {
	list := []int{from - 1, from, from + 1, to - 1, to}
	for range 12 {
		list = append(list, from+next(to-from))
	}
	for _, s := range span.Cut(row, from-300, to+300) {
		list = append(list, s.From-1, s.From, s.To-1, s.To)
	}
	return list
}

func TestP15_3BySamples(t *testing.T) {
	overZones(t, func(t *testing.T, z api.Zone) {
		next := chance(153)
		in := 0
		for _, day := range append(turnDays(z, 2024), opens+20, closes-20, opens+20+next(closes-opens-40), number(2024, 10, 3)) {
			c := house(z, timetable(next, day, 1+next(api.MaxWindows))...)
			c.Abroad = next(2) == 1
			rows := map[int][]api.Span{}
			for _, at := range sampledAt(next, whole(t, c, day), begins(t, z, day), begins(t, z, day+1)) {
				told, _, _ := zone.Local(z, at)
				row, known := rows[told]
				if !known {
					row = whole(t, c, told)
					rows[told] = row
				}
				i := slices.IndexFunc(row, func(s api.Span) bool { return s.From <= at && at < s.To })
				if i < 0 {
					wantMode(t, c, at, api.ModeNormal, 0)
					continue
				}
				wantMode(t, c, at, row[i].Mode, row[i].From)
				in++
			}
		}
		if in < 60 {
			t.Fatalf("only %d instants are in spans", in)
		}
	})
}

func TestP15_4InItsDaysRow(t *testing.T) {
	overZones(t, func(t *testing.T, z api.Zone) {
		next := chance(154)
		for _, day := range append(turnDays(z, 2025), number(2024, 4, 23), number(2025, 1, 1), opens+next(closes-opens-1)) {
			c := house(z, timetable(next, day, 1+next(api.MaxWindows))...)
			row, err := Row(c, day)
			if err != api.OK {
				t.Fatalf("Row(.., %d): error %d", day, err)
			}
			from, to := begins(t, z, day), begins(t, z, day+1)
			for _, at := range sampledAt(next, row, from, to) {
				told, _, _ := zone.Local(z, at)
				if told != day || at >= to { // another day, or this one, told again when the next one had begun
					continue
				}
				mode, since, err := Mode(c, at)
				s, is := span.At(row, at)
				if err != api.OK || mode != s.Mode || is && since > s.From || !is && since != 0 {
					t.Fatalf("Mode(.., %d) = %d, %d, %d, and in the row it is %v, %v, of %v", at, mode, since, err, s, is, c)
				}
			}
		}
	})
}

func TestP15_4AllMinutesOfDays(t *testing.T) {
	c := house(north(), ofEachKind()[0], ofEachKind()[3], dated(5, 6, onDay, 100, 100), dated(2, 6, offDay, 150, 50))
	for _, day := range []int{onDay, offDay, eve} {
		row, err := Row(c, day)
		if err != api.OK {
			t.Fatalf("Row(.., %d): error %d", day, err)
		}
		for at := begins(t, north(), day); at < begins(t, north(), day+1); at++ {
			s, _ := span.At(row, at)
			if mode, _, err := Mode(c, at); mode != s.Mode || err != api.OK {
				t.Fatalf("Mode(.., %d) = %d, %d, and in the row it is %v", at, mode, err, s)
			}
		}
	}
}

func TestP15_4WhereClocksAreSetBack(t *testing.T) {
	// Of the Sunday that is told again its row knows nothing, as the Monday has begun.
	c := house(again(), dated(4, 0, offDay+1, 0, 90), dated(3, 1, offDay, 0, 1440))
	row, err := Row(c, offDay)
	if err != api.OK || !slices.Equal(row, []api.Span{{From: offDay*1440 - 60, To: offDay*1440 + 1380, Mode: 3}}) {
		t.Fatalf("Row(.., %d) = %v, %d", offDay, row, err)
	}
	for at := offDay*1440 + 1410; at < offDay*1440+1440; at++ {
		if day, _, _ := zone.Local(again(), at); day != offDay {
			t.Fatalf("at %d clocks tell the day %d", at, day)
		}
		wantMode(t, c, at, 4, offDay*1440+1380)
	}
}

// weightiest is the weightiest span of those that an instant is in: of the greatest Prio, then of the greatest From, then the last one.
func weightiest(list []api.Span, at int) (api.Span, bool) {
	best, is := api.Span{}, false
	for _, s := range list {
		if s.From > at || at >= s.To {
			continue
		}
		if !is || s.Prio > best.Prio || s.Prio == best.Prio && s.From >= best.From {
			best, is = s, true
		}
	}
	return best, is
}

func TestP15_4TheWeightiestOfAll(t *testing.T) {
	overZones(t, func(t *testing.T, z api.Zone) {
		next := chance(155)
		in := 0
		for _, day := range append(turnDays(z, 2026), opens+10, closes-10, number(2026, 9, 12), opens+10+next(closes-opens-20)) {
			c := house(z, timetable(next, day, 1+next(api.MaxWindows))...)
			c.Abroad = next(2) == 1
			list, err := Spans(c, day-20, day+10)
			if err != api.OK {
				t.Fatalf("Spans(.., %d, %d): error %d", day-20, day+10, err)
			}
			row, _ := span.Resolve(list)
			for _, at := range sampledAt(next, row, begins(t, z, day), begins(t, z, day+1)) {
				s, is := weightiest(list, at)
				mode, since, err := Mode(c, at)
				if err != api.OK || mode != s.Mode || is && since > at || !is && since != 0 {
					t.Fatalf("Mode(.., %d) = %d, %d, %d, and the weightiest one is %v, %v, of %v", at, mode, since, err, s, is, c)
				}
				if is {
					in++
				}
			}
		}
		if in < 60 {
			t.Fatalf("only %d instants are in spans", in)
		}
	})
}

func TestSpansComeFromAFunctionThatIsRangedOver(t *testing.T) {
	c := house(north(), ofEachKind()...)
	var seq iter.Seq[api.Span] = begun(c, eve-1, eve+12)
	all := listed(t, c, eve-1, eve+12)
	if len(all) < 10 || !slices.Equal(slices.Collect(seq), all) {
		t.Fatalf("those that begin are %v, want %v", slices.Collect(seq), all)
	}
	// It may be left at each of them, within a day and between two, and gone through again.
	for n := range all {
		var got []api.Span
		for s := range seq {
			got = append(got, s)
			if len(got) > n {
				break
			}
		}
		if !slices.Equal(got, all[:n+1]) {
			t.Fatalf("left behind %d: %v, want %v", n+1, got, all[:n+1])
		}
	}
	for s := range begun(c, eve+1, eve) {
		t.Fatalf("%v begins on no day", s)
	}
}

// roomy is a list with spare room that is marked, and the whole of that room.
func roomy[T any](list []T, mark T) (with, whole []T) {
	whole = slices.Repeat([]T{mark}, len(list)+3)
	copy(whole, list)
	return whole[:len(list)], whole
}

func TestHandedInIsLeftAsItWas(t *testing.T) {
	windows := append(ofEachKind(), always(3))
	c := house(north())
	var allStops []int
	var allWindows []api.Window
	c.Stops, allStops = roomy([]int{1, 4, 8}, -7)
	c.Windows, allWindows = roomy(windows, api.Window{Kind: -7})
	stops, kept := slices.Clone(allStops), slices.Clone(allWindows)
	for day := eve - 3; day < eve+4; day++ {
		Spans(c, day-10, day+10)
		Spans(c, day, 0)
		Row(c, day)
		Row(c, day-eve)
		Mode(c, day*1440+700)
		Mode(c, day)
	}
	if !slices.Equal(allStops, stops) || !slices.Equal(allWindows, kept) {
		t.Fatalf("a configuration became %v, %v", allStops, allWindows)
	}
	d := house(north())
	d.Stops, d.Windows = c.Stops, c.Windows
	if !reflect.DeepEqual(c, d) {
		t.Fatalf("a configuration became %v", c)
	}
}

func TestAnswersAreNewMemory(t *testing.T) {
	c := house(north(), ofEachKind()...)
	list, _ := Spans(c, eve, eve+3)
	row, _ := Row(c, eve+1)
	keptList, keptRow := slices.Clone(list), slices.Clone(row)
	if len(list) < 4 || len(row) < 4 {
		t.Fatalf("the answers are %v, %v", list, row)
	}
	// What was answered is overwritten, with its spare room: it is no part of another answer.
	for _, l := range [][]api.Span{list, row} {
		l = l[:cap(l)]
		for i := range l {
			l[i] = api.Span{From: -1, To: -1, Mode: -1, Prio: -1}
		}
	}
	wantSpans(t, c, eve, eve+3, keptList...)
	wantRow(t, c, eve+1, keptRow...)
	// What was handed in is overwritten: it is no part of an answer.
	list, _ = Spans(c, eve, eve+3)
	row, _ = Row(c, eve+1)
	for i := range c.Windows {
		c.Windows[i] = always(5)
	}
	if !slices.Equal(list, keptList) || !slices.Equal(row, keptRow) {
		t.Fatalf("the answers became %v, %v", list, row)
	}
}

func TestNothingIsKept(t *testing.T) {
	c := house(north(), weekly(3, 1, 65, 1200, 600))
	from := (eve+1)*1440 + 1200 - 120
	want := api.Span{From: from, To: from + 600, Mode: 3, Prio: 1}
	for range 3 {
		wantSpans(t, c, eve+1, eve+1, want)
		wantRow(t, c, eve+1, api.Span{From: from, To: from + 240, Mode: 3})
		wantMode(t, c, from+100, 3, from)
		// Other questions come between, of the same list of windows, too.
		other := c
		other.Zone = api.Zone{}
		wantMode(t, other, from+100, 0, 0)
		wantMode(t, other, from+120, 3, from+120)
		other.Windows = nil
		wantRow(t, other, eve+1)
		wantNoRow(t, other, 0, api.ErrWindowDay)
		c.Windows[0].Mode = 2
		wantMode(t, c, from+100, 2, from)
		wantRow(t, c, eve+1, api.Span{From: from, To: from + 240, Mode: 2})
		c.Windows[0] = api.Window{}
		wantNoMode(t, c, from+100, api.ErrConfigWindow)
		wantNoSpans(t, c, eve+1, eve+1, api.ErrConfigWindow)
		c.Windows[0] = weekly(3, 1, 65, 1200, 600)
	}
}

func TestExample(t *testing.T) {
	const at = 738779 * 1440
	for _, base := range []int{0, 60, -300} {
		c := house(api.Zone{Base: base}, weekly(api.ModeLock, 0, 65, 1200, 600))
		wantMode(t, c, at+1300-base, api.ModeLock, at+1200-base)
		wantMode(t, c, at+1100-base, api.ModeNormal, 0)
	}
}

func TestP1AllArgumentsEnd(t *testing.T) {
	numbers := []int{api.MinInt, api.MinInt + 1, -1 << 32, -1, 0, 1, 127, 401, 402, 410, 411, 1439, eve, 3651988, 3651990, 3651998, eve * 1440, 1 << 32, api.MaxInt - 1, api.MaxInt}
	for _, a := range numbers {
		for _, b := range numbers {
			for _, c := range []api.Config{
				house(north(), ofEachKind()...), house(api.Zone{Base: a}, always(1)), house(api.Zone{Base: b, Shift: a}), house(api.Zone{Base: 60, Shift: 60, On: api.Turn{Month: a, Week: b}}),
				house(west(), weekly(1, 1, a, 1, b)), house(west(), dated(1, 1, a, b, 1)), house(west(), dated(a, b, eve, 1, 1)), house(west(), api.Window{Kind: a, Shift: b, Arg: 1, Len: 1}),
				{Floors: a, Cars: b, Stops: []int{a, b}, Rest: a, Pater: b, Windows: []api.Window{{}}},
			} {
				if list, err := Spans(c, a, b); err != api.OK && len(list) != 0 {
					t.Fatalf("Spans(%v, %d, %d) = %v, %d", c, a, b, list, err)
				}
				if row, err := Row(c, b); err != api.OK && len(row) != 0 {
					t.Fatalf("Row(%v, %d) = %v, %d", c, b, row, err)
				}
				if mode, since, err := Mode(c, b); err != api.OK && (mode != 0 || since != 0) {
					t.Fatalf("Mode(%v, %d) = %d, %d, %d", c, b, mode, since, err)
				}
			}
		}
	}
}
