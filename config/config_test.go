package config

import (
	"reflect"
	"slices"
	"testing"

	"newel/api"
	"newel/sunset"
	"newel/zone"
)

// plain is a configuration that may be, with each number within its ends.
func plain() api.Config {
	return api.Config{
		Floors: 10, Cars: 3, Park: 4, Stops: []int{1, 4, 8},
		Times: api.Times{Travel: 5, Level: 2, Open: 3, Dwell: 20, Lead: 6, Close: 4, Hold: 30},
		Rest:  40, Pater: 10,
		Zone: api.Zone{Base: 60, Shift: 60, On: api.Turn{Month: 3, Week: 5, Minute: 120}, Off: api.Turn{Month: 10, Week: 5, Minute: 120}},
		Sun:  api.Sun{1000, 1050, 1100, 1150, 1180, 1200, 1170, 1130, 1080, 1030, 1000, 990},
		Windows: []api.Window{
			{Kind: 1, Mode: 3, Prio: 10, Arg: 65, Minute: 1200, Len: 600},
			{Kind: 2, Mode: 2, Prio: 20, Arg: 738605, Minute: 480, Len: 60},
			{Kind: 3, Mode: 4, Prio: 30, Arg: 5, Shift: -1, Minute: 600, Len: 90},
			{Kind: 4, Mode: 1, Prio: 40, Minute: 18, Len: 42},
		},
	}
}

// other is a configuration that may be, of as many floors and cars, in which all else differs.
func other() api.Config {
	return api.Config{
		Floors: 10, Cars: 3, Park: 0, Stops: []int{0, 9},
		Times: api.Times{Travel: 1, Level: 1, Open: 1, Dwell: 1, Lead: 1, Close: 1, Hold: 0},
		Rest:  1, Pater: 1,
		Zone:   api.Zone{Base: -300},
		Sun:    api.Sun{900, 901, 902, 903, 904, 905, 906, 907, 908, 909, 910, 911},
		Abroad: true,
	}
}

// low is a configuration of which all that goes by something else is as low as it may be.
func low() api.Config {
	c := plain()
	c.Park, c.Stops, c.Times.Lead = 0, []int{0, 1}, 1
	return c
}

// cloned is a configuration in memory of its own.
func cloned(c api.Config) api.Config {
	c.Stops, c.Windows = slices.Clone(c.Stops), slices.Clone(c.Windows)
	return c
}

// chance makes a row of numbers without an order, the same one from each beginning.
func chance(seed uint64) func(below int) int {
	return func(below int) int {
		seed = seed*6364136223846793005 + 1442695040888963407
		return int((seed ^ seed>>29) >> 16 % uint64(below))
	}
}

// number is one that lies in something, and what it may be.
type number[T any] struct {
	name        string
	at          func(x *T) *int
	least, most int
}

// around is the ends of a number, those beside them, and those of all numbers.
func (n number[T]) around() []int {
	return []int{api.MinInt, api.MinInt + 1, n.least - 1, n.least, n.most, n.most + 1, api.MaxInt - 1, api.MaxInt}
}

// errorAt is the error of a value of a number.
func (n number[T]) errorAt(value int, err api.Errno) api.Errno {
	if n.least <= value && value <= n.most {
		return api.OK
	}
	return err
}

// kindOf is a kind of windows: one of its windows, and what its numbers may be.
type kindOf struct {
	window  api.Window
	numbers []number[api.Window]
}

// kinds is the chapter's table of windows.
func kinds() []kindOf {
	return []kindOf{
		{api.Window{Kind: 1, Mode: 3, Prio: 10, Arg: 65, Minute: 1200, Len: 600}, numbersOf(1, 127, 0, 0, 0, 1439, 1, 10080)},
		{api.Window{Kind: 2, Mode: 2, Prio: 20, Arg: 738605, Minute: 480, Len: 60}, numbersOf(401, 3651998, 0, 0, 0, 1439, 1, 10080)},
		{api.Window{Kind: 3, Mode: 4, Prio: 30, Arg: 5, Shift: -1, Minute: 600, Len: 90}, numbersOf(1, 7, -7, 7, 0, 1439, 1, 10080)},
		{api.Window{Kind: 4, Mode: 1, Prio: 40, Minute: 18, Len: 42}, numbersOf(0, 0, 0, 0, 0, 180, 0, 180)},
	}
}

// allKinds is that table made once, for what asks it often.
var allKinds = kinds()

// numbersOf is the numbers of a window, with the ends of Arg, Shift, Minute and Len.
func numbersOf(arg1, arg2, shift1, shift2, minute1, minute2, len1, len2 int) []number[api.Window] {
	return []number[api.Window]{
		{"Mode", func(w *api.Window) *int { return &w.Mode }, 0, 5},
		{"Prio", func(w *api.Window) *int { return &w.Prio }, 0, 99},
		{"Arg", func(w *api.Window) *int { return &w.Arg }, arg1, arg2},
		{"Shift", func(w *api.Window) *int { return &w.Shift }, shift1, shift2},
		{"Minute", func(w *api.Window) *int { return &w.Minute }, minute1, minute2},
		{"Len", func(w *api.Window) *int { return &w.Len }, len1, len2},
	}
}

// times is the times of a configuration, but for Lead, and those of its other modes.
func times() []number[api.Config] {
	return []number[api.Config]{
		{"Travel", func(c *api.Config) *int { return &c.Times.Travel }, 1, 60},
		{"Level", func(c *api.Config) *int { return &c.Times.Level }, 1, 60},
		{"Open", func(c *api.Config) *int { return &c.Times.Open }, 1, 60},
		{"Dwell", func(c *api.Config) *int { return &c.Times.Dwell }, 1, 60},
		{"Close", func(c *api.Config) *int { return &c.Times.Close }, 1, 60},
		{"Hold", func(c *api.Config) *int { return &c.Times.Hold }, 0, 60},
		{"Rest", func(c *api.Config) *int { return &c.Rest }, 1, 300},
		{"Pater", func(c *api.Config) *int { return &c.Pater }, 1, 300},
	}
}

// reckonedWindow is Window by the words of the chapter.
func reckonedWindow(w api.Window) api.Errno {
	for _, k := range allKinds {
		if k.window.Kind != w.Kind {
			continue
		}
		for _, n := range k.numbers {
			if err := n.errorAt(*n.at(&w), api.ErrConfigWindow); err != api.OK {
				return err
			}
		}
		return api.OK
	}
	return api.ErrConfigWindow
}

// reckonedCheck is Check by the words of the chapter.
func reckonedCheck(c api.Config) api.Errno {
	if c.Floors < 2 || c.Floors > 64 || c.Cars < 1 || c.Cars > 8 || c.Park < 0 || c.Park >= c.Floors {
		return api.ErrConfigSize
	}
	if !reckonedStops(c.Stops, c.Floors) {
		return api.ErrConfigStops
	}
	for _, n := range times() {
		if err := n.errorAt(*n.at(&c), api.ErrConfigTimes); err != api.OK {
			return err
		}
	}
	if lead := c.Times.Lead; lead < 1 || lead > c.Times.Dwell || lead > c.Rest || lead > c.Pater {
		return api.ErrConfigTimes
	}
	if err := zone.Check(c.Zone); err != api.OK {
		return err
	}
	if err := sunset.Check(c.Sun); err != api.OK {
		return err
	}
	if len(c.Windows) > 16 {
		return api.ErrConfigMany
	}
	for _, w := range c.Windows {
		if reckonedWindow(w) != api.OK {
			return api.ErrConfigWindow
		}
	}
	return api.OK
}

// reckonedStops is whether there are two stops at least, each a floor, and above all ahead of it.
func reckonedStops(stops []int, floors int) bool {
	for i, stop := range stops {
		if stop < 0 || stop >= floors || slices.ContainsFunc(stops[:i], func(ahead int) bool { return ahead >= stop }) {
			return false
		}
	}
	return len(stops) >= 2
}

// wantWindow holds Window to an error.
func wantWindow(t *testing.T, w api.Window, want api.Errno) {
	t.Helper()
	if got := Window(w); got != want {
		t.Errorf("Window(%+v) = %d, want %d", w, got, want)
	}
}

// wantCheck holds Check to an error.
func wantCheck(t *testing.T, c api.Config, want api.Errno) {
	t.Helper()
	if got := Check(c); got != want {
		t.Errorf("Check(%+v) = %d, want %d", c, got, want)
	}
}

// wantSame holds Same to an answer, either way about.
func wantSame(t *testing.T, a, b api.Config, want bool) {
	t.Helper()
	if Same(a, b) != want || Same(b, a) != want {
		t.Errorf("Same(%+v, %+v) = %t, and about %t, want %t", a, b, Same(a, b), Same(b, a), want)
	}
}

// wantFits holds Fits to an answer, either way about.
func wantFits(t *testing.T, a, b api.Config, want bool) {
	t.Helper()
	if Fits(a, b) != want || Fits(b, a) != want {
		t.Errorf("Fits(%+v, %+v) = %t, and about %t, want %t", a, b, Fits(a, b), Fits(b, a), want)
	}
}

func TestP10_1WindowExamples(t *testing.T) {
	wantWindow(t, api.Window{Kind: api.WinWeekly, Arg: 65, Minute: 1200, Len: 600}, api.OK)
	wantWindow(t, api.Window{Kind: api.WinWeekly, Arg: 0, Minute: 1200, Len: 600}, api.ErrConfigWindow)
	wantWindow(t, api.Window{Kind: api.WinRest}, api.OK)
	wantWindow(t, api.Window{}, api.ErrConfigWindow)
}

func TestP10_1WindowNumbers(t *testing.T) {
	for _, k := range kinds() {
		wantWindow(t, k.window, api.OK)
		for _, n := range k.numbers {
			values := n.around()
			for value := -300; value <= 300; value++ {
				values = append(values, value)
			}
			for value := n.most - 10; value <= n.most+300; value++ {
				values = append(values, value)
			}
			for _, value := range values {
				w := k.window
				*n.at(&w) = value
				wantWindow(t, w, n.errorAt(value, api.ErrConfigWindow))
			}
		}
	}
}

// All numbers at their ends, and beyond: it may be just if none is beyond.
func TestP10_1WindowNumbersTogether(t *testing.T) {
	for _, k := range kinds() {
		together(t, k.window, k.numbers, api.OK)
	}
}

// together holds Window to the worst of a window's numbers, whatever those that are left are.
func together(t *testing.T, w api.Window, left []number[api.Window], worst api.Errno) {
	if len(left) == 0 {
		wantWindow(t, w, worst)
		return
	}
	n := left[0]
	for _, value := range []int{api.MinInt, n.least - 1, n.least, n.most, n.most + 1, api.MaxInt} {
		*n.at(&w) = value
		together(t, w, left[1:], max(worst, n.errorAt(value, api.ErrConfigWindow)))
	}
}

func TestP10_1WindowKinds(t *testing.T) {
	for _, k := range kinds() {
		for _, kind := range []int{0, 5, -1, api.MinInt, api.MaxInt, api.MinInt + 1, 6, 8, 257, 1<<32 + 1, -2, -3, -4} {
			w := k.window
			w.Kind = kind
			wantWindow(t, w, api.ErrConfigWindow)
		}
		for kind := 1; kind <= 4; kind++ {
			w := k.window
			w.Kind = kind
			wantWindow(t, w, reckonedWindow(w))
		}
	}
}

func TestP10_1WindowOfAnyNumbers(t *testing.T) {
	next := chance(101)
	may := 0
	for range 200000 {
		w := anyWindow(next)
		wantWindow(t, w, reckonedWindow(w))
		if Window(w) == api.OK {
			may++
		}
	}
	if may < 20000 || may > 180000 {
		t.Errorf("%d of the windows may be", may)
	}
}

// anyWindow is a window that may be, or one of which a number was set to that of another one, or to its neighbour.
func anyWindow(next func(below int) int) api.Window {
	k := allKinds[next(4)]
	w := k.window
	for _, n := range k.numbers {
		*n.at(&w) = n.least + next(n.most-n.least+1)
	}
	if next(2) == 0 {
		return w
	}
	others := allKinds[next(4)].numbers
	n := others[next(len(others))]
	*n.at(&w) = n.around()[next(8)]
	if next(4) == 0 {
		w.Kind = next(8) - 1
	}
	return w
}

func TestP10_1CheckMayBe(t *testing.T) {
	for _, c := range []api.Config{plain(), other(), low(), least(), most()} {
		wantCheck(t, c, api.OK)
	}
	wantCheck(t, api.Config{}, api.ErrConfigSize)
}

// least is a configuration with all numbers as low as they may be.
func least() api.Config {
	return api.Config{
		Floors: 2, Cars: 1, Stops: []int{0, 1}, Times: api.Times{Travel: 1, Level: 1, Open: 1, Dwell: 1, Lead: 1, Close: 1}, Rest: 1, Pater: 1,
		Zone: api.Zone{Base: -720}, Sun: api.Sun{900, 900, 900, 900, 900, 900, 900, 900, 900, 900, 900, 900},
	}
}

// most is a configuration with all numbers as high as they may be.
func most() api.Config {
	c := api.Config{
		Floors: 64, Cars: 8, Park: 63, Times: api.Times{Travel: 60, Level: 60, Open: 60, Dwell: 60, Lead: 60, Close: 60, Hold: 60}, Rest: 300, Pater: 300,
		Zone: api.Zone{Base: 840, Shift: 120, On: api.Turn{Month: 2, Week: 5, Weekday: 6, Minute: 1439}, Off: api.Turn{Month: 12, Week: 5, Weekday: 6, Minute: 1439}},
		Sun:  api.Sun{1320, 1320, 1320, 1320, 1320, 1320, 1320, 1320, 1320, 1320, 1320, 1320}, Abroad: true,
	}
	for floor := range 64 {
		c.Stops = append(c.Stops, floor)
	}
	for range 16 {
		c.Windows = append(c.Windows, api.Window{Kind: 3, Mode: 5, Prio: 99, Arg: 7, Shift: 7, Minute: 1439, Len: 10080})
	}
	return c
}

// wantNumber holds Check to the ends of a number of a configuration.
func wantNumber(t *testing.T, c api.Config, n number[api.Config], err api.Errno) {
	t.Helper()
	values := n.around()
	for value := -10; value <= 400; value++ {
		values = append(values, value)
	}
	for _, value := range values {
		*n.at(&c) = value
		if got, want := Check(c), n.errorAt(value, err); got != want {
			t.Errorf("Check with %s %d = %d, want %d", n.name, value, got, want)
		}
	}
}

func TestP10_1CheckSize(t *testing.T) {
	wantNumber(t, low(), number[api.Config]{"Floors", func(c *api.Config) *int { return &c.Floors }, 2, 64}, api.ErrConfigSize)
	wantNumber(t, low(), number[api.Config]{"Cars", func(c *api.Config) *int { return &c.Cars }, 1, 8}, api.ErrConfigSize)
	for floors := 2; floors <= 64; floors++ {
		c := low()
		c.Floors = floors
		wantNumber(t, c, number[api.Config]{"Park", func(c *api.Config) *int { return &c.Park }, 0, floors - 1}, api.ErrConfigSize)
	}
}

// A place to park is one of the building's floors, however many floors might be.
func TestP10_1CheckParkAtFloors(t *testing.T) {
	c := low()
	c.Park = 7
	wantNumber(t, c, number[api.Config]{"Floors", func(c *api.Config) *int { return &c.Floors }, 8, 64}, api.ErrConfigSize)
}

func TestP10_1CheckTimes(t *testing.T) {
	for _, n := range times() {
		wantNumber(t, low(), n, api.ErrConfigTimes)
	}
	wantNumber(t, low(), number[api.Config]{"Lead", func(c *api.Config) *int { return &c.Times.Lead }, 1, 10}, api.ErrConfigTimes)
}

func TestP10_1CheckLead(t *testing.T) {
	for _, x := range []struct{ dwell, rest, pater, least int }{
		{7, 20, 30, 7}, {7, 30, 20, 7}, {20, 7, 30, 7}, {30, 7, 20, 7}, {20, 30, 7, 7}, {30, 20, 7, 7},
		{7, 7, 7, 7}, {7, 7, 8, 7}, {7, 8, 7, 7}, {8, 7, 7, 7}, {6, 7, 8, 6}, {8, 6, 7, 6}, {7, 8, 6, 6},
		{1, 300, 300, 1}, {60, 1, 300, 1}, {60, 300, 1, 1}, {60, 300, 300, 60}, {60, 60, 300, 60}, {60, 59, 300, 59}, {60, 300, 59, 59},
	} {
		c := plain()
		c.Times.Dwell, c.Rest, c.Pater = x.dwell, x.rest, x.pater
		c.Times.Lead = x.least
		wantCheck(t, c, api.OK)
		c.Times.Lead = x.least + 1
		wantCheck(t, c, api.ErrConfigTimes)
		wantNumber(t, c, number[api.Config]{"Lead", func(c *api.Config) *int { return &c.Times.Lead }, 1, x.least}, api.ErrConfigTimes)
	}
}

// With a lead above 1 a time that it goes by may be no less.
func TestP10_1CheckTimesAtLead(t *testing.T) {
	for _, n := range times() {
		c := low()
		if n.name == "Dwell" || n.name == "Rest" || n.name == "Pater" {
			c.Times.Lead, n.least = 9, 9
		}
		wantNumber(t, c, n, api.ErrConfigTimes)
	}
}

func TestP10_1CheckStops(t *testing.T) {
	for _, x := range []struct {
		stops []int
		want  api.Errno
	}{
		{nil, api.ErrConfigStops}, {[]int{}, api.ErrConfigStops}, {[]int{0}, api.ErrConfigStops}, {[]int{9}, api.ErrConfigStops}, {[]int{10}, api.ErrConfigStops},
		{[]int{0, 1}, api.OK}, {[]int{0, 9}, api.OK}, {[]int{8, 9}, api.OK}, {[]int{4, 6}, api.OK}, {[]int{0, 4, 9}, api.OK}, {[]int{0, 1, 2, 3, 4, 5, 6, 7, 8, 9}, api.OK},
		{[]int{0, 1, 2, 3, 4, 5, 6, 7, 8, 9, 10}, api.ErrConfigStops}, {[]int{0, 1, 2, 3, 4, 5, 6, 7, 8, 9, 9}, api.ErrConfigStops}, {[]int{-1, 0, 1, 2, 3, 4, 5, 6, 7, 8, 9}, api.ErrConfigStops},
		// Two that are equal, and that fall: the first ones, ones in the middle, the last ones.
		{[]int{3, 3}, api.ErrConfigStops}, {[]int{0, 0, 4, 9}, api.ErrConfigStops}, {[]int{0, 4, 4, 9}, api.ErrConfigStops}, {[]int{0, 4, 9, 9}, api.ErrConfigStops}, {[]int{4, 5, 4}, api.ErrConfigStops},
		{[]int{9, 0}, api.ErrConfigStops}, {[]int{4, 3, 6, 9}, api.ErrConfigStops}, {[]int{0, 6, 5, 9}, api.ErrConfigStops}, {[]int{0, 4, 9, 8}, api.ErrConfigStops}, {[]int{9, 4, 0}, api.ErrConfigStops},
		// Below 0.
		{[]int{-1, 4}, api.ErrConfigStops}, {[]int{-1, 4, 9}, api.ErrConfigStops}, {[]int{-2, -1, 9}, api.ErrConfigStops}, {[]int{0, -1, 9}, api.ErrConfigStops}, {[]int{0, 4, -1}, api.ErrConfigStops}, {[]int{-2, -1}, api.ErrConfigStops},
		{[]int{api.MinInt, 4, 9}, api.ErrConfigStops}, {[]int{0, api.MinInt, 9}, api.ErrConfigStops}, {[]int{0, 4, api.MinInt}, api.ErrConfigStops},
		// At Floors, and above.
		{[]int{4, 10}, api.ErrConfigStops}, {[]int{10, 4, 9}, api.ErrConfigStops}, {[]int{10, 11, 12}, api.ErrConfigStops}, {[]int{0, 10, 9}, api.ErrConfigStops}, {[]int{0, 10, 11}, api.ErrConfigStops}, {[]int{0, 4, 10}, api.ErrConfigStops},
		{[]int{api.MaxInt, 4, 9}, api.ErrConfigStops}, {[]int{0, api.MaxInt, 9}, api.ErrConfigStops}, {[]int{0, 4, api.MaxInt}, api.ErrConfigStops}, {[]int{api.MaxInt, api.MinInt}, api.ErrConfigStops}, {[]int{0, api.MaxInt, api.MinInt}, api.ErrConfigStops},
	} {
		c := plain()
		c.Stops = x.stops
		wantCheck(t, c, x.want)
	}
}

// All lists of up to five stops of small buildings, those that may not be too.
func TestP10_1CheckAllStops(t *testing.T) {
	for floors := 2; floors <= 4; floors++ {
		c := low()
		c.Floors = floors
		allStops(t, c, nil)
	}
}

// allStops holds Check to a list of stops, and to all that begin with it.
func allStops(t *testing.T, c api.Config, stops []int) {
	c.Stops = stops
	want := api.OK
	if !reckonedStops(stops, c.Floors) {
		want = api.ErrConfigStops
	}
	wantCheck(t, c, want)
	if len(stops) == 5 {
		return
	}
	for stop := -1; stop <= c.Floors; stop++ {
		allStops(t, c, append(slices.Clone(stops), stop))
	}
}

func TestP10_1CheckAsManyStopsAsFloors(t *testing.T) {
	for floors := 2; floors <= 64; floors++ {
		c := low()
		c.Floors, c.Stops = floors, nil
		for floor := range floors {
			c.Stops = append(c.Stops, floor)
		}
		wantCheck(t, c, api.OK)
		for at := range c.Stops {
			one := cloned(c)
			one.Stops = slices.Delete(one.Stops, at, at+1)
			wantCheck(t, one, reckonedCheck(one))
			for _, stop := range []int{-1, at - 1, at + 1, floors, api.MinInt, api.MaxInt} {
				one := cloned(c)
				one.Stops[at] = stop
				wantCheck(t, one, api.ErrConfigStops)
			}
		}
		c.Stops = append(c.Stops, floors)
		wantCheck(t, c, api.ErrConfigStops)
	}
}

// spoiled is something by which a configuration may not be, and what it tells.
type spoiled struct {
	err  api.Errno
	done func(c *api.Config)
}

// spoiledSizes, and those below, each leave all of a configuration as it is but what their errors are about.
func spoiledSizes() []spoiled {
	return []spoiled{
		{api.ErrConfigSize, func(c *api.Config) { c.Floors = 65 }}, {api.ErrConfigSize, func(c *api.Config) { c.Floors = 1 }}, {api.ErrConfigSize, func(c *api.Config) { c.Floors = api.MinInt }},
		{api.ErrConfigSize, func(c *api.Config) { c.Cars = 0 }}, {api.ErrConfigSize, func(c *api.Config) { c.Cars = 9 }},
		{api.ErrConfigSize, func(c *api.Config) { c.Park = -1 }}, {api.ErrConfigSize, func(c *api.Config) { c.Park = 10 }},
	}
}

func spoiledStops() []spoiled {
	return []spoiled{
		{api.ErrConfigStops, func(c *api.Config) { c.Stops = nil }}, {api.ErrConfigStops, func(c *api.Config) { c.Stops = []int{3} }},
		{api.ErrConfigStops, func(c *api.Config) { c.Stops = []int{3, 3} }}, {api.ErrConfigStops, func(c *api.Config) { c.Stops = []int{1, 8, 4} }},
		{api.ErrConfigStops, func(c *api.Config) { c.Stops = []int{-1, 3} }}, {api.ErrConfigStops, func(c *api.Config) { c.Stops = []int{3, 64} }},
	}
}

func spoiledTimes() []spoiled {
	list := []spoiled{
		{api.ErrConfigTimes, func(c *api.Config) { c.Times.Lead = 0 }}, {api.ErrConfigTimes, func(c *api.Config) { c.Times.Lead = 11 }},
		{api.ErrConfigTimes, func(c *api.Config) { c.Times = api.Times{} }},
	}
	for _, n := range times() {
		list = append(list,
			spoiled{api.ErrConfigTimes, func(c *api.Config) { *n.at(c) = n.least - 1 }},
			spoiled{api.ErrConfigTimes, func(c *api.Config) { *n.at(c) = n.most + 1 }},
		)
	}
	return list
}

func spoiledZones() []spoiled {
	return []spoiled{
		{api.ErrZoneBase, func(c *api.Config) { c.Zone.Base = -721 }}, {api.ErrZoneBase, func(c *api.Config) { c.Zone.Base = 841 }},
		{api.ErrZoneShift, func(c *api.Config) { c.Zone.Shift = -1 }}, {api.ErrZoneShift, func(c *api.Config) { c.Zone.Shift = 121 }},
		{api.ErrZoneTurn, func(c *api.Config) { c.Zone.On.Month = 13 }}, {api.ErrZoneTurn, func(c *api.Config) { c.Zone.Off.Week = 0 }},
		{api.ErrZoneTurn, func(c *api.Config) { c.Zone.On.Weekday = 7 }}, {api.ErrZoneTurn, func(c *api.Config) { c.Zone.Off.Minute = 1440 }},
		{api.ErrZoneTurn, func(c *api.Config) { c.Zone.On.Month = c.Zone.Off.Month }},
	}
}

func spoiledSuns() []spoiled {
	return []spoiled{
		{api.ErrSunMinute, func(c *api.Config) { c.Sun[0] = 899 }}, {api.ErrSunMinute, func(c *api.Config) { c.Sun[5] = 1321 }}, {api.ErrSunMinute, func(c *api.Config) { c.Sun[11] = api.MinInt }},
		{api.ErrSunStep, func(c *api.Config) { c.Sun[2], c.Sun[3] = 1000, 1121 }}, {api.ErrSunStep, func(c *api.Config) { c.Sun[7], c.Sun[8] = 1121, 1000 }},
	}
}

func spoiledWindows() []spoiled {
	return []spoiled{
		{api.ErrConfigMany, func(c *api.Config) {
			for len(c.Windows) < 17 {
				c.Windows = append(c.Windows, plain().Windows[0])
			}
		}},
		{api.ErrConfigMany, func(c *api.Config) { c.Windows = append(c.Windows, make([]api.Window, 300)...) }},
		{api.ErrConfigWindow, func(c *api.Config) { c.Windows[0].Mode = 6 }}, {api.ErrConfigWindow, func(c *api.Config) { c.Windows[1].Arg = 400 }},
		{api.ErrConfigWindow, func(c *api.Config) { c.Windows[2].Shift = 8 }}, {api.ErrConfigWindow, func(c *api.Config) { c.Windows[3].Kind = 5 }},
	}
}

// allSpoiled is all of these, in the order of their errors.
func allSpoiled() []spoiled {
	return slices.Concat(spoiledSizes(), spoiledStops(), spoiledTimes(), spoiledZones(), spoiledSuns(), spoiledWindows())
}

func TestP10_1CheckOneError(t *testing.T) {
	for _, s := range allSpoiled() {
		c := plain()
		s.done(&c)
		wantCheck(t, c, s.err)
	}
}

func TestP10_1CheckTwoErrors(t *testing.T) {
	all := allSpoiled()
	for i, first := range all {
		for _, behind := range all[i+1:] {
			if behind.err == first.err {
				continue // both may be about one number
			}
			c := plain()
			first.done(&c)
			behind.done(&c)
			wantCheck(t, c, first.err)
			c = plain()
			behind.done(&c)
			wantCheck(t, c, behind.err)
			first.done(&c)
			wantCheck(t, c, first.err)
		}
	}
}

// With all errors at once, and then with one fewer each time, from the first one on.
func TestP10_1CheckAllErrors(t *testing.T) {
	groups := [][]spoiled{spoiledSizes(), spoiledStops(), spoiledTimes(), spoiledZones(), spoiledSuns(), spoiledWindows()}
	for first := range groups {
		for at, s := range groups[first] {
			c := plain()
			for _, behind := range groups[first+1:] {
				behind[at%len(behind)].done(&c)
			}
			s.done(&c)
			wantCheck(t, c, s.err)
		}
	}
}

func TestP10_1CheckZone(t *testing.T) {
	for _, x := range []struct {
		zone api.Zone
		want api.Errno
	}{
		{api.Zone{}, api.OK}, {api.Zone{Base: -720}, api.OK}, {api.Zone{Base: 840}, api.OK}, {plain().Zone, api.OK}, {most().Zone, api.OK},
		{api.Zone{Base: -721}, api.ErrZoneBase}, {api.Zone{Base: 841}, api.ErrZoneBase}, {api.Zone{Base: api.MinInt}, api.ErrZoneBase}, {api.Zone{Base: api.MaxInt, Shift: -1}, api.ErrZoneBase},
		{api.Zone{Shift: -1}, api.ErrZoneShift}, {api.Zone{Shift: 121}, api.ErrZoneShift}, {api.Zone{Shift: api.MaxInt}, api.ErrZoneShift},
		{api.Zone{Shift: 60}, api.ErrZoneTurn}, {api.Zone{On: api.Turn{Month: 3, Week: 1}}, api.ErrZoneTurn}, {api.Zone{Off: api.Turn{Minute: 1}}, api.ErrZoneTurn},
	} {
		c := plain()
		c.Zone = x.zone
		wantCheck(t, c, x.want)
		for _, s := range spoiledSuns() {
			if x.want != api.OK {
				s.done(&c)
				wantCheck(t, c, x.want)
			}
		}
	}
}

func TestP10_1CheckSun(t *testing.T) {
	for month := range 12 {
		next := (month + 1) % 12
		for _, x := range []struct {
			a, b int
			want api.Errno
		}{
			{1100, 1100, api.OK}, {1040, 1160, api.OK}, {1160, 1040, api.OK},
			{1040, 1161, api.ErrSunStep}, {1161, 1040, api.ErrSunStep}, {900, 1320, api.ErrSunStep},
			{899, 1100, api.ErrSunMinute}, {1100, 1321, api.ErrSunMinute}, {api.MinInt, api.MaxInt, api.ErrSunMinute}, {0, 0, api.ErrSunMinute},
		} {
			c := plain()
			for i := range c.Sun {
				c.Sun[i] = 1100
			}
			c.Sun[month], c.Sun[next] = x.a, x.b
			wantCheck(t, c, x.want)
		}
	}
}

func TestP10_1CheckManyWindows(t *testing.T) {
	c := plain()
	c.Windows = nil
	wantCheck(t, c, api.OK)
	c.Windows = []api.Window{}
	wantCheck(t, c, api.OK)
	for count := range 40 {
		want := api.OK
		if count > 16 {
			want = api.ErrConfigMany
		}
		c.Windows = make([]api.Window, count)
		for i := range c.Windows {
			c.Windows[i] = plain().Windows[i%4]
		}
		wantCheck(t, c, want)
		// Of too many it does not matter what they are.
		c.Windows = make([]api.Window, count)
		if count > 0 && count <= 16 {
			want = api.ErrConfigWindow
		}
		wantCheck(t, c, want)
	}
}

func TestP10_1CheckWindowsPlaces(t *testing.T) {
	for count := 1; count <= 17; count++ {
		want := api.ErrConfigWindow
		if count > 16 {
			want = api.ErrConfigMany
		}
		for at := range count {
			for _, wrong := range []api.Window{{}, {Kind: 5}, {Kind: 1, Len: 1}, {Kind: 2, Arg: 400, Len: 1}, {Kind: 3, Arg: 8, Len: 1}, {Kind: 4, Mode: 6}, {Kind: 4, Prio: -1}, {Kind: api.MaxInt}} {
				c := plain()
				c.Windows = slices.Repeat(plain().Windows[at%4:at%4+1], count)
				c.Windows[at] = wrong
				wantCheck(t, c, want)
			}
		}
	}
}

// Whatever a window's kind, its numbers are held to the same ends in a configuration.
func TestP10_1CheckWindowsNumbers(t *testing.T) {
	for _, k := range kinds() {
		for _, n := range k.numbers {
			for _, value := range n.around() {
				c := plain()
				*n.at(&k.window) = value
				c.Windows[2] = k.window
				wantCheck(t, c, Window(k.window))
				wantCheck(t, c, reckonedWindow(k.window))
			}
			*n.at(&k.window) = n.least
		}
	}
}

func TestP10_1CheckOfAnyConfigurations(t *testing.T) {
	next := chance(102)
	told := map[api.Errno]int{}
	for range 60000 {
		c := anyConfig(next)
		want := reckonedCheck(c)
		wantCheck(t, c, want)
		told[want]++
	}
	for _, err := range []api.Errno{api.OK, 60, 61, 62, 70, 71, 100, 101, 102, 103, 104} {
		if told[err] < 200 {
			t.Errorf("%d is the answer %d times only", err, told[err])
		}
	}
}

// anyConfig is a configuration that may be, or one in which up to three numbers were set to others.
func anyConfig(next func(below int) int) api.Config {
	c := rightConfig(next)
	if next(10) == 0 {
		c.Windows = append(c.Windows, slices.Repeat([]api.Window{anyWindow(next)}, 17-len(c.Windows))...)
	}
	list := leaves(&c)
	for range next(4) {
		at := list[next(len(list))]
		if at.Kind() == reflect.Int {
			near := at.Int() + int64(next(7)) - 3
			at.SetInt([]int64{near, near, near, 0, -1, 1, 60, 61, 64, 300, 301, 900, 1320, 1500, api.MinInt, api.MaxInt}[next(16)])
		}
	}
	return c
}

// rightConfig is a configuration that may be, of any size.
func rightConfig(next func(below int) int) api.Config {
	c := plain()
	c.Floors, c.Cars = 2+next(63), 1+next(8)
	c.Park = next(c.Floors)
	c.Stops = nil
	for floor := range c.Floors {
		if next(3) > 0 || c.Floors-floor+len(c.Stops) <= 2 {
			c.Stops = append(c.Stops, floor)
		}
	}
	for _, n := range times() {
		*n.at(&c) = n.least + next(n.most-n.least+1)
	}
	c.Times.Lead = 1 + next(min(c.Times.Dwell, c.Rest, c.Pater))
	if next(3) == 0 {
		c.Zone = api.Zone{Base: next(1561) - 720}
	}
	for i := range c.Sun {
		c.Sun[i] = 1050 + next(120)
	}
	c.Abroad = next(2) == 0
	c.Windows = nil
	for range next(17) {
		if w := anyWindow(next); reckonedWindow(w) == api.OK {
			c.Windows = append(c.Windows, w)
		}
	}
	return c
}

// leaves is each single number and flag of a configuration, wherever in it it lies.
func leaves(c *api.Config) []reflect.Value {
	return leavesOf(reflect.ValueOf(c).Elem(), nil)
}

// leavesOf is a list with the numbers and flags of a value behind it.
func leavesOf(v reflect.Value, list []reflect.Value) []reflect.Value {
	switch v.Kind() {
	case reflect.Struct:
		for i := range v.NumField() {
			list = leavesOf(v.Field(i), list)
		}
	case reflect.Slice, reflect.Array:
		for i := range v.Len() {
			list = leavesOf(v.Index(i), list)
		}
	default:
		list = append(list, v)
	}
	return list
}

// samples is configurations that may be, and such as may not.
func samples() []api.Config {
	list := []api.Config{plain(), other(), low(), least(), most(), {}, {Floors: api.MinInt, Stops: []int{api.MaxInt}, Windows: make([]api.Window, 40)}}
	for _, s := range allSpoiled() {
		c := plain()
		s.done(&c)
		list = append(list, c)
	}
	return list
}

func TestP10_2SameOfEqualOnes(t *testing.T) {
	for _, c := range samples() {
		wantSame(t, c, c, true)
		wantSame(t, c, cloned(c), true)
		roomy := cloned(c)
		roomy.Stops = append(slices.Clone(c.Stops), 7, 7, 7)[:len(c.Stops)]
		roomy.Windows = append(slices.Clone(c.Windows), api.Window{Kind: 9}, api.Window{})[:len(c.Windows)]
		wantSame(t, c, roomy, true)
		others := cloned(c)
		others.Stops = append(slices.Clone(c.Stops), 8, 8)[:len(c.Stops)]
		others.Windows = append(slices.Clone(c.Windows), api.Window{Kind: 8})[:len(c.Windows)]
		wantSame(t, roomy, others, true)
	}
}

func TestP10_2SameOfNilAndEmpty(t *testing.T) {
	for _, c := range samples() {
		a, b := cloned(c), cloned(c)
		a.Stops, b.Stops = nil, []int{}
		wantSame(t, a, b, true)
		b.Stops = []int{1, 2, 3}[:0]
		wantSame(t, a, b, true)
		a.Windows, b.Windows = nil, []api.Window{}
		wantSame(t, a, b, true)
		b.Windows = []api.Window{{Kind: 1}}[:0]
		wantSame(t, a, b, true)
		b.Stops = []int{0}
		wantSame(t, a, b, false)
		b.Stops, b.Windows = nil, []api.Window{{}}
		wantSame(t, a, b, false)
	}
}

// 3 of its size, 7 and 2 times, 10 of the zone, 12 sunsets, a flag, the stops, and 7 of each window.
func TestP10_2SameOfEachNumber(t *testing.T) {
	for _, c := range samples() {
		count := len(leaves(&c))
		if want := 35 + len(c.Stops) + 7*len(c.Windows); count != want {
			t.Fatalf("%d numbers and flags, want %d", count, want)
		}
		for i := range count {
			a, b := cloned(c), cloned(c)
			mine, yours := leaves(&a)[i], leaves(&b)[i]
			if mine.Kind() == reflect.Bool {
				yours.SetBool(!mine.Bool())
				wantSame(t, a, b, false)
				continue
			}
			was := mine.Int()
			for _, value := range []int64{was - 1, was + 1, ^was, was ^ 1<<8, was ^ 1<<32, was ^ 1<<62, api.MinInt, api.MaxInt, 0} {
				yours.SetInt(value)
				wantSame(t, a, b, value == was)
			}
		}
	}
}

func TestP10_2SameOfLengths(t *testing.T) {
	for _, c := range samples() {
		for _, w := range []api.Window{{}, {Kind: 4}} {
			b := cloned(c)
			b.Windows = append(b.Windows, w)
			wantSame(t, c, b, false)
			b.Windows = slices.Insert(cloned(c).Windows, 0, w)
			wantSame(t, c, b, false)
		}
		for _, stop := range []int{0, 9, 63, -1} {
			b := cloned(c)
			b.Stops = append(b.Stops, stop)
			wantSame(t, c, b, false)
			b.Stops = slices.Insert(cloned(c).Stops, 0, stop)
			wantSame(t, c, b, false)
		}
		for n := range c.Stops {
			b := cloned(c)
			b.Stops = b.Stops[:n]
			wantSame(t, c, b, false)
			b.Stops = slices.Clone(c.Stops)[n+1:]
			wantSame(t, c, b, false)
		}
		for n := range c.Windows {
			b := cloned(c)
			b.Windows = b.Windows[:n]
			wantSame(t, c, b, false)
			b.Windows = slices.Clone(c.Windows)[n+1:]
			wantSame(t, c, b, false)
		}
	}
}

// Windows in another order are others, though each is in both.
func TestP10_2SameOfOrders(t *testing.T) {
	b := plain()
	slices.Reverse(b.Windows)
	wantSame(t, plain(), b, false)
	b = plain()
	b.Windows[1], b.Windows[2] = b.Windows[2], b.Windows[1]
	wantSame(t, plain(), b, false)
	b = plain()
	slices.Reverse(b.Stops)
	wantSame(t, plain(), b, false)
	b = plain()
	b.Zone.On, b.Zone.Off = b.Zone.Off, b.Zone.On
	wantSame(t, plain(), b, false)
	b = plain()
	b.Rest, b.Pater = b.Pater, b.Rest
	wantSame(t, plain(), b, false)
}

func TestP10_2SameOfAnyConfigurations(t *testing.T) {
	next := chance(103)
	list := samples()
	for i, a := range list {
		for k, b := range list {
			wantSame(t, a, b, i == k || deepSame(a, b))
		}
	}
	for range 20000 {
		a := anyConfig(next)
		b := cloned(a)
		all := leaves(&b)
		for range next(3) {
			if at := all[next(len(all))]; at.Kind() == reflect.Int {
				at.SetInt(at.Int() + int64(next(3)) - 1)
			}
		}
		wantSame(t, a, b, deepSame(a, b))
		wantSame(t, a, anyConfig(next), false)
	}
}

// deepSame is whether two are the same, of which the lists may be nil or empty.
func deepSame(a, b api.Config) bool {
	for _, c := range []*api.Config{&a, &b} {
		c.Stops = append([]int{}, c.Stops...)
		c.Windows = append([]api.Window{}, c.Windows...)
	}
	return reflect.DeepEqual(a, b)
}

func TestP10_2FitsOfSameSizes(t *testing.T) {
	wantFits(t, plain(), plain(), true)
	wantFits(t, plain(), other(), true)
	wantFits(t, plain(), low(), true)
	wantFits(t, low(), other(), true)
	wantFits(t, least(), least(), true)
	wantFits(t, most(), most(), true)
}

func TestP10_2FitsOfOtherSizes(t *testing.T) {
	wantFits(t, least(), most(), false)
	for _, base := range []api.Config{plain(), other(), low()} {
		for floors := 2; floors <= 64; floors++ {
			a, b := low(), low()
			a.Floors, b.Floors = base.Floors, floors
			wantFits(t, a, b, floors == base.Floors)
		}
		for cars := 1; cars <= 8; cars++ {
			b := cloned(base)
			b.Cars = cars
			wantFits(t, base, b, cars == base.Cars)
			wantFits(t, plain(), b, cars == 3)
		}
	}
	// The one's floors are as many as the other's cars.
	a, b := low(), low()
	a.Floors, a.Cars, b.Floors, b.Cars = 4, 2, 2, 4
	wantFits(t, a, b, false)
	a.Floors, a.Cars, b.Floors, b.Cars = 5, 2, 4, 3
	wantFits(t, a, b, false)
}

func TestP10_2FitsOfWhatMayNotBe(t *testing.T) {
	wantFits(t, api.Config{}, api.Config{}, false)
	wantFits(t, plain(), api.Config{}, false)
	for _, s := range allSpoiled() {
		c := plain()
		s.done(&c)
		wantFits(t, c, plain(), false)
		wantFits(t, c, other(), false)
		wantFits(t, c, c, false)
		wantFits(t, c, cloned(c), false)
		d := other()
		d.Times.Travel = 0
		wantFits(t, c, d, false)
	}
}

func TestP10_2FitsOfAnyConfigurations(t *testing.T) {
	next := chance(104)
	fit := 0
	for range 20000 {
		a, b := anyConfig(next), anyConfig(next)
		b.Floors = a.Floors + next(2)*next(2)
		b.Cars = a.Cars + next(2)*next(2)
		want := reckonedCheck(a) == api.OK && reckonedCheck(b) == api.OK && a.Floors == b.Floors && a.Cars == b.Cars
		wantFits(t, a, b, want)
		if want {
			fit++
		}
	}
	if fit < 500 {
		t.Errorf("only %d fit", fit)
	}
}

func TestP10_3EachWindowMayBe(t *testing.T) {
	next := chance(105)
	may := 0
	for range 50000 {
		c := anyConfig(next)
		if Check(c) != api.OK {
			continue
		}
		may += len(c.Windows)
		for _, w := range c.Windows {
			wantWindow(t, w, api.OK)
		}
	}
	if may < 10000 {
		t.Errorf("only %d windows are of configurations that may be", may)
	}
}

func TestP10_3OneWindowMore(t *testing.T) {
	next := chance(106)
	told := map[api.Errno]int{}
	for range 50000 {
		c, w := rightConfig(next), anyWindow(next)
		wantCheck(t, c, api.OK)
		want := Window(w)
		if len(c.Windows) == 16 {
			want = api.ErrConfigMany
		}
		told[want]++
		for _, at := range []int{0, len(c.Windows) / 2, len(c.Windows)} {
			more := cloned(c)
			more.Windows = slices.Insert(more.Windows, at, w)
			wantCheck(t, more, want)
		}
	}
	if told[api.OK] < 1000 || told[api.ErrConfigWindow] < 1000 {
		t.Errorf("answers: %v", told)
	}
}

// With windows one after the other, up to 16, and no more.
func TestP10_3WindowsUpToTooMany(t *testing.T) {
	next := chance(107)
	for range 300 {
		c := rightConfig(next)
		c.Windows = nil
		for len(c.Windows) < 16 {
			w := anyWindow(next)
			more := cloned(c)
			more.Windows = append(more.Windows, w)
			wantCheck(t, more, Window(w))
			if Window(w) == api.OK {
				c = more
			}
		}
		for range 20 {
			more := cloned(c)
			more.Windows = append(more.Windows, anyWindow(next))
			wantCheck(t, more, api.ErrConfigMany)
		}
	}
}

// roomy is a configuration whose lists have spare room, in which lies what may not be, and that room.
func roomy(c api.Config, spare int) (api.Config, []int, []api.Window) {
	stops := slices.Concat(c.Stops, slices.Repeat([]int{-5}, spare))
	windows := slices.Concat(c.Windows, slices.Repeat([]api.Window{{Kind: 7, Mode: -1}}, spare))
	c.Stops, c.Windows = stops[:len(c.Stops)], windows[:len(c.Windows)]
	return c, stops, windows
}

func TestArgumentsAreLeftAsTheyWere(t *testing.T) {
	for _, c := range samples() {
		a, stops, windows := roomy(c, 20)
		b, otherStops, otherWindows := roomy(c, 3)
		Check(a)
		Same(a, b)
		Fits(a, b)
		for _, w := range a.Windows {
			Window(w)
		}
		for i, want := range [][]int{slices.Concat(c.Stops, slices.Repeat([]int{-5}, 20)), slices.Concat(c.Stops, slices.Repeat([]int{-5}, 3))} {
			if got := [][]int{stops, otherStops}[i]; !slices.Equal(got, want) {
				t.Errorf("the stops %v became %v", want, got)
			}
		}
		wrong := []api.Window{{Kind: 7, Mode: -1}}
		for i, want := range [][]api.Window{slices.Concat(c.Windows, slices.Repeat(wrong, 20)), slices.Concat(c.Windows, slices.Repeat(wrong, 3))} {
			if got := [][]api.Window{windows, otherWindows}[i]; !slices.Equal(got, want) {
				t.Errorf("the windows %v became %v", want, got)
			}
		}
	}
}

func TestSpareRoomIsNotRead(t *testing.T) {
	for _, c := range samples() {
		for _, spare := range []int{0, 1, 13, 100} {
			a, _, _ := roomy(c, spare)
			wantCheck(t, a, reckonedCheck(c))
			wantSame(t, a, c, true)
			wantFits(t, a, plain(), reckonedCheck(c) == api.OK && c.Floors == 10 && c.Cars == 3)
		}
	}
	// A second stop that lies in spare room is none.
	c := plain()
	c.Stops = c.Stops[:1]
	wantCheck(t, c, api.ErrConfigStops)
}

// What was asked of a configuration is asked anew, if its lists are others since then.
func TestArgumentsAreNotKept(t *testing.T) {
	c := plain()
	twin := cloned(c)
	for range 3 {
		wantCheck(t, c, api.OK)
		wantSame(t, c, twin, true)
		wantFits(t, c, twin, true)
		c.Stops[1] = 1
		wantCheck(t, c, api.ErrConfigStops)
		wantSame(t, c, twin, false)
		wantFits(t, c, twin, false)
		c.Stops[1] = 4
		c.Windows[3].Len = 181
		wantCheck(t, c, api.ErrConfigWindow)
		wantSame(t, c, twin, false)
		wantFits(t, c, twin, false)
		c.Windows[3].Len = 42
	}
}

func TestP1AllArgumentsEnd(t *testing.T) {
	long := plain()
	long.Stops = make([]int, 1<<20)
	long.Windows = make([]api.Window, 1<<18)
	list := append(samples(), long)
	for _, value := range []int64{api.MinInt, api.MinInt + 1, -1, 0, 1, api.MaxInt - 1, api.MaxInt} {
		c := plain()
		for _, at := range leaves(&c) {
			if at.Kind() == reflect.Int {
				at.SetInt(value)
			}
		}
		list = append(list, c)
		wantCheck(t, c, api.ErrConfigSize)
		wantWindow(t, c.Windows[0], reckonedWindow(c.Windows[0]))
		wantSame(t, c, cloned(c), true)
	}
	for _, a := range list {
		wantCheck(t, a, reckonedCheckOrLong(a))
		for _, b := range list {
			if Fits(a, b) && (Check(a) != api.OK || Check(b) != api.OK) {
				t.Errorf("Fits(%+v, %+v)", a, b)
			}
			Same(a, b)
		}
	}
}

// reckonedCheckOrLong is Check by the words of the chapter, without a look at each two of a great many stops.
func reckonedCheckOrLong(c api.Config) api.Errno {
	if len(c.Stops) > 1000 {
		c.Stops = []int{0, 0}
	}
	return reckonedCheck(c)
}
