package span

import (
	"fmt"
	"slices"
	"testing"

	"newel/api"
)

// of makes a span: from, to, mode, prio.
func of(from, to, mode, prio int) api.Span {
	return api.Span{From: from, To: to, Mode: mode, Prio: prio}
}

// spans is a list of spans that is written out.
func spans(l ...api.Span) []api.Span {
	return l
}

// chance makes a row of numbers without an order, the same one from each beginning.
func chance(seed uint64) func(below int) int {
	return func(below int) int {
		seed = seed*6364136223846793005 + 1442695040888963407
		return int((seed ^ seed>>29) >> 16 % uint64(below))
	}
}

// reckon is the mode of the weightiest span at an instant, by the chapter's words.
func reckon(l []api.Span, t int) (mode int, is bool) {
	best := -1
	for i, s := range l {
		if t < s.From || t >= s.To {
			continue
		}
		if best < 0 || s.Prio > l[best].Prio || s.Prio == l[best].Prio && s.From >= l[best].From {
			best = i
		}
	}
	if best < 0 {
		return 0, false
	}
	return l[best].Mode, true
}

// edges are the beginnings and ends of spans, the instants about each, and both ends of all.
func edges(lists ...[]api.Span) []int {
	all := []int{api.MinInt, api.MinInt + 1, api.MaxInt - 1, api.MaxInt}
	for _, l := range lists {
		for _, s := range l {
			all = append(all, s.From-1, s.From, s.From+1, s.To-1, s.To, s.To+1)
		}
	}
	slices.Sort(all)
	return slices.Compact(all)
}

// faultOf is what is wrong with an answered row, by its form alone.
func faultOf(row []api.Span) string {
	for i, s := range row {
		switch {
		case s.From >= s.To:
			return fmt.Sprintf("nothing is in piece %d", i)
		case s.Prio != 0:
			return fmt.Sprintf("piece %d weighs something", i)
		case i > 0 && s.From < row[i-1].To:
			return fmt.Sprintf("piece %d begins too early", i)
		case i > 0 && s.From == row[i-1].To && s.Mode == row[i-1].Mode:
			return fmt.Sprintf("piece %d goes on in the same mode", i)
		}
	}
	return ""
}

// modeIn is the mode of a row at an instant: that of the only one of its spans that it is in.
func modeIn(row []api.Span, t int) (mode int, is bool) {
	for _, s := range row {
		if s.From <= t && t < s.To {
			return s.Mode, true
		}
	}
	return 0, false
}

// wantResolved holds Resolve to the reckoning, at each edge of what it is given and answers, and at more instants.
func wantResolved(t *testing.T, l []api.Span, more ...int) []api.Span {
	t.Helper()
	row, err := Resolve(l)
	if err != api.OK {
		t.Fatalf("Resolve(%v): error %d", l, err)
	}
	if fault := faultOf(row); fault != "" {
		t.Fatalf("Resolve(%v) = %v: %s", l, row, fault)
	}
	for _, at := range append(edges(l, row), more...) {
		mode, is := modeIn(row, at)
		if want, should := reckon(l, at); mode != want || is != should {
			t.Fatalf("Resolve(%v) = %v: at %d mode %d, %v, want %d, %v", l, row, at, mode, is, want, should)
		}
	}
	return row
}

// wantRow holds Resolve to a row that is written out, and this one to the reckoning.
func wantRow(t *testing.T, l, want []api.Span) {
	t.Helper()
	if row := wantResolved(t, l); !slices.Equal(row, want) {
		t.Fatalf("Resolve(%v) = %v, want %v", l, row, want)
	}
}

// wantForm holds Resolve to its error, and to no spans.
func wantForm(t *testing.T, l []api.Span) {
	t.Helper()
	if row, err := Resolve(l); row != nil || err != api.ErrSpanForm {
		t.Fatalf("Resolve of %d spans = %v, %d, want ErrSpanForm", len(l), row, err)
	}
}

// orders are all orders of spans.
func orders(l []api.Span) [][]api.Span {
	if len(l) == 0 {
		return [][]api.Span{nil}
	}
	var all [][]api.Span
	for i, first := range l {
		for _, rest := range orders(slices.Delete(slices.Clone(l), i, i+1)) {
			all = append(all, append(spans(first), rest...))
		}
	}
	return all
}

func TestP13_1Example(t *testing.T) {
	for _, l := range orders(spans(of(0, 10, 1, 0), of(3, 5, 2, 1))) {
		wantRow(t, l, spans(of(0, 3, 1, 0), of(3, 5, 2, 0), of(5, 10, 1, 0)))
	}
}

func TestP13_1NoSpansAndOne(t *testing.T) {
	wantRow(t, nil, nil)
	wantRow(t, spans(), nil)
	wantRow(t, make([]api.Span, 0, 9), nil)
	wantRow(t, spans(of(3, 4, 5, 6)), spans(of(3, 4, 5, 0)))
	wantRow(t, spans(of(-7, 90, 0, 0)), spans(of(-7, 90, 0, 0)))
	wantRow(t, spans(of(-90, -7, -5, -6)), spans(of(-90, -7, -5, 0)))
}

// In any order these come to the same: no instant is in two that weigh the same.
func TestP13_1HowSpansLie(t *testing.T) {
	for name, x := range map[string]struct{ l, want []api.Span }{
		"apart":               {spans(of(0, 2, 1, 0), of(5, 7, 2, 0), of(9, 10, 3, 0)), spans(of(0, 2, 1, 0), of(5, 7, 2, 0), of(9, 10, 3, 0))},
		"touch":               {spans(of(0, 2, 1, 4), of(2, 7, 2, 4), of(7, 8, 1, 4)), spans(of(0, 2, 1, 0), of(2, 7, 2, 0), of(7, 8, 1, 0))},
		"overlap, first":      {spans(of(0, 5, 1, 2), of(3, 8, 2, 1)), spans(of(0, 5, 1, 0), of(5, 8, 2, 0))},
		"overlap, second":     {spans(of(0, 5, 1, 1), of(3, 8, 2, 2)), spans(of(0, 3, 1, 0), of(3, 8, 2, 0))},
		"overlap, three":      {spans(of(0, 5, 1, 1), of(3, 8, 2, 3), of(4, 9, 3, 2)), spans(of(0, 3, 1, 0), of(3, 8, 2, 0), of(8, 9, 3, 0))},
		"within, lighter":     {spans(of(0, 9, 1, 2), of(3, 5, 2, 1)), spans(of(0, 9, 1, 0))},
		"within, weightier":   {spans(of(0, 9, 1, 1), of(3, 5, 2, 2)), spans(of(0, 3, 1, 0), of(3, 5, 2, 0), of(5, 9, 1, 0))},
		"within one another":  {spans(of(0, 9, 1, 1), of(2, 7, 2, 2), of(4, 5, 3, 3)), spans(of(0, 2, 1, 0), of(2, 4, 2, 0), of(4, 5, 3, 0), of(5, 7, 2, 0), of(7, 9, 1, 0))},
		"two within":          {spans(of(0, 9, 1, 1), of(2, 3, 2, 2), of(5, 6, 3, 2)), spans(of(0, 2, 1, 0), of(2, 3, 2, 0), of(3, 5, 1, 0), of(5, 6, 3, 0), of(6, 9, 1, 0))},
		"begin, long heavier": {spans(of(0, 9, 1, 2), of(0, 4, 2, 1)), spans(of(0, 9, 1, 0))},
		"begin, long lighter": {spans(of(0, 9, 1, 1), of(0, 4, 2, 2)), spans(of(0, 4, 2, 0), of(4, 9, 1, 0))},
		"end, long heavier":   {spans(of(0, 9, 1, 2), of(6, 9, 2, 1)), spans(of(0, 9, 1, 0))},
		"end, long lighter":   {spans(of(0, 9, 1, 1), of(6, 9, 2, 2)), spans(of(0, 6, 1, 0), of(6, 9, 2, 0))},
		"same, three weights": {spans(of(2, 4, 1, 1), of(2, 4, 2, 3), of(2, 4, 3, 2)), spans(of(2, 4, 2, 0))},
		"same, weight below":  {spans(of(2, 4, 1, -5), of(2, 4, 2, -6)), spans(of(2, 4, 1, 0))},
		"instants side by":    {spans(of(3, 4, 1, 0), of(4, 5, 2, 0), of(6, 7, 3, 0)), spans(of(3, 4, 1, 0), of(4, 5, 2, 0), of(6, 7, 3, 0))},
	} {
		t.Run(name, func(t *testing.T) {
			for _, l := range orders(x.l) {
				wantRow(t, l, x.want)
			}
		})
	}
}

// Of the same weight that one is the weightier that begins later, in whatever order they stand.
func TestP13_1TieOfWeight(t *testing.T) {
	for _, prio := range []int{0, 7, -7, api.MinInt, api.MaxInt} {
		for _, x := range []struct{ l, want []api.Span }{
			{spans(of(0, 5, 1, prio), of(2, 7, 2, prio)), spans(of(0, 2, 1, 0), of(2, 7, 2, 0))},
			{spans(of(0, 9, 1, prio), of(2, 7, 2, prio)), spans(of(0, 2, 1, 0), of(2, 7, 2, 0), of(7, 9, 1, 0))},
			{spans(of(0, 9, 1, prio), of(8, 9, 2, prio)), spans(of(0, 8, 1, 0), of(8, 9, 2, 0))},
			{spans(of(-5, 5, 1, prio), of(-4, 5, 2, prio)), spans(of(-5, -4, 1, 0), of(-4, 5, 2, 0))},
			{spans(of(0, 9, 1, prio), of(2, 9, 2, prio), of(4, 9, 3, prio)), spans(of(0, 2, 1, 0), of(2, 4, 2, 0), of(4, 9, 3, 0))},
			{spans(of(0, 9, 1, prio), of(1, 8, 2, prio), of(2, 7, 3, prio), of(3, 6, 4, prio)), spans(of(0, 1, 1, 0), of(1, 2, 2, 0), of(2, 3, 3, 0), of(3, 6, 4, 0), of(6, 7, 3, 0), of(7, 8, 2, 0), of(8, 9, 1, 0))},
		} {
			for _, l := range orders(x.l) {
				wantRow(t, l, x.want)
			}
		}
	}
}

// Of the same weight and beginning that one is the weightiest that stands last, wherever they end.
func TestP13_1TieOfBeginning(t *testing.T) {
	long, short := of(2, 9, 1, 3), of(2, 5, 2, 3)
	wantRow(t, spans(long, short), spans(of(2, 5, 2, 0), of(5, 9, 1, 0)))
	wantRow(t, spans(short, long), spans(of(2, 9, 1, 0)))
	same := of(2, 9, 4, 3)
	wantRow(t, spans(long, same), spans(of(2, 9, 4, 0)))
	wantRow(t, spans(same, long), spans(of(2, 9, 1, 0)))
	wantRow(t, spans(long, short, same), spans(of(2, 9, 4, 0)))
	wantRow(t, spans(long, same, short), spans(of(2, 5, 2, 0), of(5, 9, 4, 0)))
	wantRow(t, spans(same, short, long), spans(of(2, 9, 1, 0)))
	middle := of(2, 7, 5, 3)
	for _, l := range orders(spans(long, short, same, middle)) {
		row := wantResolved(t, l)
		if last := l[len(l)-1]; len(row) == 0 || row[0].Mode != last.Mode || row[0].From != 2 || row[0].To < last.To {
			t.Fatalf("Resolve(%v) = %v does not begin with the last one", l, row)
		}
	}
}

// A lesser weight is less, whether it stands behind or ahead, and whenever it begins.
func TestP13_1LesserWeights(t *testing.T) {
	for _, weights := range [][2]int{{0, 1}, {98, 99}, {-1, 0}, {-2, -1}, {-5, 5}, {api.MinInt, api.MaxInt}, {api.MinInt, 1}, {-2, api.MaxInt}, {api.MinInt, api.MinInt + 1}, {api.MaxInt - 1, api.MaxInt}} {
		light, heavy := weights[0], weights[1]
		for _, from := range []int{0, 2, 3, 5, 6} {
			lesser := of(from, 9, 2, light)
			for _, l := range orders(spans(of(3, 6, 1, heavy), lesser)) {
				want := spans(of(3, 6, 1, 0), of(6, 9, 2, 0))
				if from < 3 {
					want = slices.Insert(want, 0, of(from, 3, 2, 0))
				}
				wantRow(t, l, want)
			}
		}
		for _, l := range orders(spans(of(0, 9, 1, heavy), of(0, 9, 2, light), of(4, 9, 3, light))) {
			wantRow(t, l, spans(of(0, 9, 1, 0)))
		}
	}
}

// The order counts only among those that weigh and begin the same, whatever else stands between or behind.
func TestP13_1LastOfTheWeightiest(t *testing.T) {
	light, early := of(3, 9, 7, 0), of(0, 9, 8, 5)
	first, last := of(2, 9, 1, 5), of(2, 9, 2, 5)
	for _, l := range [][]api.Span{
		{first, last, light, early},
		{first, light, last, early},
		{light, early, first, last},
		{early, first, light, last},
		{first, early, last, light},
	} {
		wantRow(t, l, spans(of(0, 2, 8, 0), of(2, 9, 2, 0)))
	}
}

func TestP13_1OnePiece(t *testing.T) {
	for _, x := range []struct{ l, want []api.Span }{
		{spans(of(0, 9, 1, 0), of(2, 4, 2, -1)), spans(of(0, 9, 1, 0))},                                                // of one span, over another
		{spans(of(0, 9, 1, 0), of(2, 4, 1, 9)), spans(of(0, 9, 1, 0))},                                                 // of two, one within
		{spans(of(0, 5, 1, 0), of(5, 9, 1, 8)), spans(of(0, 9, 1, 0))},                                                 // of two that touch
		{spans(of(0, 6, 1, 0), of(4, 9, 1, 0)), spans(of(0, 9, 1, 0))},                                                 // of two that overlap
		{spans(of(0, 3, 1, 0), of(3, 6, 1, -4), of(6, 9, 1, 7)), spans(of(0, 9, 1, 0))},                                // of three
		{spans(of(0, 3, 1, 2), of(2, 7, 1, 6), of(6, 9, 1, 2)), spans(of(0, 9, 1, 0))},                                 // another weight between
		{spans(of(0, 3, 1, 0), of(6, 9, 1, 0), of(3, 6, 1, 5)), spans(of(0, 9, 1, 0))},                                 // a gap that is filled
		{spans(of(0, 3, 1, 0), of(6, 9, 1, 0), of(2, 8, 1, -5)), spans(of(0, 9, 1, 0))},                                // and more than that
		{spans(of(0, 3, 1, 0), of(6, 9, 1, 0), of(3, 6, 2, 5)), spans(of(0, 3, 1, 0), of(3, 6, 2, 0), of(6, 9, 1, 0))}, // in another mode
		{spans(of(0, 3, 1, 0), of(6, 9, 1, 0), of(3, 5, 1, 5)), spans(of(0, 5, 1, 0), of(6, 9, 1, 0))},                 // not wholly
		{spans(of(0, 3, 1, 0), of(4, 9, 1, 0)), spans(of(0, 3, 1, 0), of(4, 9, 1, 0))},                                 // a gap
		{spans(of(0, 1, 0, 0), of(2, 3, 0, 0), of(4, 5, 0, 0)), spans(of(0, 1, 0, 0), of(2, 3, 0, 0), of(4, 5, 0, 0))},
		{spans(of(0, 4, 1, 0), of(4, 8, 2, 0), of(2, 6, 1, 1)), spans(of(0, 6, 1, 0), of(6, 8, 2, 0))},
		{spans(of(0, 4, 1, 0), of(4, 8, 1, 0), of(3, 5, 2, 1)), spans(of(0, 3, 1, 0), of(3, 5, 2, 0), of(5, 8, 1, 0))},
	} {
		for _, l := range orders(x.l) {
			wantRow(t, l, x.want)
		}
	}
}

// farTimes, farNumbers are whole numbers at their ends, and about nought.
func farTimes() []int {
	return []int{api.MinInt, api.MinInt + 1, -5, -1, 0, 1, api.MaxInt - 1, api.MaxInt}
}

func farNumbers() []int {
	return []int{api.MinInt, api.MinInt + 1, -1, 0, 1, api.MaxInt - 1, api.MaxInt}
}

func TestP13_1FarNumbers(t *testing.T) {
	wantRow(t, spans(of(api.MinInt, api.MaxInt, api.MinInt, api.MaxInt)), spans(of(api.MinInt, api.MaxInt, api.MinInt, 0)))
	wantRow(t, spans(of(api.MinInt, api.MinInt+1, api.MaxInt, api.MinInt)), spans(of(api.MinInt, api.MinInt+1, api.MaxInt, 0)))
	wantRow(t, spans(of(api.MaxInt-1, api.MaxInt, -1, -1)), spans(of(api.MaxInt-1, api.MaxInt, -1, 0)))
	for _, l := range orders(spans(of(api.MinInt, api.MaxInt, 1, 4), of(api.MaxInt-1, api.MaxInt, 2, 4))) {
		wantRow(t, l, spans(of(api.MinInt, api.MaxInt-1, 1, 0), of(api.MaxInt-1, api.MaxInt, 2, 0)))
	}
	for _, l := range orders(spans(of(api.MinInt, 0, api.MaxInt, 0), of(0, api.MaxInt, api.MinInt, 0))) {
		wantRow(t, l, spans(of(api.MinInt, 0, api.MaxInt, 0), of(0, api.MaxInt, api.MinInt, 0)))
	}
	for _, mode := range farNumbers() {
		for _, l := range orders(spans(of(api.MinInt, -3, mode, 0), of(-3, 3, mode, api.MinInt), of(3, api.MaxInt, mode, api.MaxInt))) {
			wantRow(t, l, spans(of(api.MinInt, api.MaxInt, mode, 0)))
		}
	}
}

// farSpans are spans of all far times and weights, in one mode.
func farSpans(mode int) []api.Span {
	var all []api.Span
	for _, from := range farTimes() {
		for _, to := range farTimes() {
			for _, prio := range farNumbers() {
				if from < to {
					all = append(all, of(from, to, mode, prio))
				}
			}
		}
	}
	return all
}

func TestP13_1FarPairs(t *testing.T) {
	ones, others := farSpans(api.MinInt), farSpans(api.MaxInt)
	for _, a := range ones {
		for _, b := range others {
			wantResolved(t, spans(a, b))
			wantResolved(t, spans(b, a))
		}
	}
}

func TestP13_1FarRows(t *testing.T) {
	next := chance(131)
	all := farSpans(0)
	for range 3000 {
		var l []api.Span
		for range 1 + next(8) {
			s := all[next(len(all))]
			s.Mode = farNumbers()[next(7)]
			l = append(l, s)
		}
		wantResolved(t, l)
	}
}

// emptyOnes are spans in which nothing is: of no length, and turned round.
func emptyOnes() []api.Span {
	var all []api.Span
	for _, from := range farTimes() {
		for _, to := range farTimes() {
			if from >= to {
				all = append(all, of(from, to, 1, 2))
			}
		}
	}
	return append(all, api.Span{}, of(4, 4, 0, 0), of(5, 4, 0, 0), of(9, -9, 3, 99))
}

func TestP13_1EmptySpans(t *testing.T) {
	good := spans(of(0, 5, 1, 0), of(3, 9, 2, 1), of(12, 15, 3, 0), of(12, 13, 1, 0))
	for _, wrong := range emptyOnes() {
		wantForm(t, spans(wrong))
		wantForm(t, spans(wrong, wrong))
		for at := range len(good) + 1 {
			wantForm(t, slices.Insert(slices.Clone(good), at, wrong))
		}
	}
	wantResolved(t, good)
}

// touching makes so many spans that touch, in modes by turns.
func touching(count, modes int) []api.Span {
	var l []api.Span
	for i := range count {
		l = append(l, of(2*i, 2*i+2, i%modes, i%3))
	}
	return l
}

// crossed makes one long span, and so many weightier ones within, in another mode and apart.
func crossed(within int) []api.Span {
	l := spans(of(-1, 2*within, 1, 0))
	for i := range within {
		l = append(l, of(2*i, 2*i+1, 2, 1))
	}
	return l
}

// nested makes so many spans, each one within the one ahead, in other modes.
func nested(count int) []api.Span {
	var l []api.Span
	for i := range count {
		l = append(l, of(i, 2*count-i, i, 0))
	}
	return l
}

func TestP13_1ManySpans(t *testing.T) {
	for _, x := range []struct {
		l      []api.Span
		pieces int
	}{
		{touching(500, 3), 500},
		{touching(500, 1), 1},
		{touching(499, 2), 499},
		{crossed(499), 999},
		{nested(500), 999},
		{slices.Repeat(spans(of(3, 8, 1, 2)), 500), 1},
	} {
		if row := wantResolved(t, x.l); len(row) != x.pieces {
			t.Fatalf("%d spans come to %d pieces, want %d", len(x.l), len(row), x.pieces)
		}
		back := slices.Clone(x.l)
		slices.Reverse(back)
		if row := wantResolved(t, back); len(row) != x.pieces {
			t.Fatalf("%d spans, the last one first, come to %d pieces, want %d", len(x.l), len(row), x.pieces)
		}
	}
}

func TestP13_1TheLastOf500(t *testing.T) {
	l := slices.Repeat(spans(of(3, 8, 1, 2)), 500)
	for i := range l {
		l[i].Mode = i
	}
	wantRow(t, l, spans(of(3, 8, 499, 0)))
	l[250].Prio = 3
	wantRow(t, l, spans(of(3, 8, 250, 0)))
}

func TestP13_1TooMany(t *testing.T) {
	for _, count := range []int{501, 502, 1000, 1 << 16} {
		wantForm(t, touching(count, 2))
		wantForm(t, slices.Repeat(spans(of(1, 2, 3, 4)), count))
		wantForm(t, make([]api.Span, count))
		wantForm(t, slices.Repeat(spans(of(5, -5, 1, 1)), count))
		for _, at := range []int{0, count / 2, 500, count - 1} {
			l := touching(count, 2)
			l[at].To = l[at].From
			wantForm(t, l)
		}
	}
	wantForm(t, crossed(500))
	for _, at := range []int{0, 1, 250, 498, 499} {
		l := touching(500, 2)
		wantResolved(t, l)
		l[at].From, l[at].To = l[at].To, l[at].From
		wantForm(t, l)
	}
}

// instants are all from one to another.
func instants(from, to int) []int {
	var all []int
	for at := from; at <= to; at++ {
		all = append(all, at)
	}
	return all
}

// anySpans makes so many spans that may be, between 0 and an end.
func anySpans(next func(below int) int, count, end int) []api.Span {
	var l []api.Span
	for range count {
		from := next(end)
		l = append(l, of(from, from+1+next(end-from), next(4), next(4)-1))
	}
	return l
}

// All rows of up to three spans in four instants.
func TestP13_1AllSmallRows(t *testing.T) {
	var all []api.Span
	for from := range 4 {
		for to := from + 1; to <= 4; to++ {
			for mode := range 3 {
				all = append(all, of(from, to, mode, 0), of(from, to, mode, 1))
			}
		}
	}
	holds := func(l ...api.Span) {
		row, err := Resolve(l)
		if fault := faultOf(row); err != api.OK || fault != "" {
			t.Fatalf("Resolve(%v) = %v, %d: %s", l, row, err, fault)
		}
		for at := -1; at <= 5; at++ {
			mode, is := modeIn(row, at)
			if want, should := reckon(l, at); mode != want || is != should {
				t.Fatalf("Resolve(%v) = %v: at %d mode %d, %v, want %d, %v", l, row, at, mode, is, want, should)
			}
		}
	}
	for _, a := range all {
		holds(a)
		for _, b := range all {
			holds(a, b)
			for _, c := range all {
				holds(a, b, c)
			}
		}
	}
}

func TestP13_1InstantByInstant(t *testing.T) {
	next := chance(132)
	for range 4000 {
		end := 1 + next(60)
		wantResolved(t, anySpans(next, next(14), end), instants(-3, end+3)...)
	}
	for range 60 {
		wantResolved(t, anySpans(next, 100+next(401), 1500), instants(-3, 1503)...)
	}
}

func TestP13_1SpoiledRows(t *testing.T) {
	next := chance(133)
	for range 3000 {
		l := anySpans(next, 1+next(14), 40)
		for range 1 + next(2) {
			at := next(len(l))
			l[at].To = l[at].From - next(3)
		}
		wantForm(t, l)
	}
}

// Each bound comes but once, however many spans begin or end there.
func TestBoundsComeOnce(t *testing.T) {
	var got [][2]int
	for at, next := range bounds(spans(of(3, 9, 1, 1), of(0, 3, 2, 2), of(3, 9, 1, 1), of(-4, 3, 1, 1), of(8, 9, 3, 3))) {
		got = append(got, [2]int{at, next})
	}
	if want := [][2]int{{-4, 0}, {0, 3}, {3, 8}, {8, 9}}; !slices.Equal(got, want) {
		t.Fatalf("bounds are %v, want %v", got, want)
	}
	for at, next := range bounds(nil) {
		t.Fatalf("%d to %d are bounds of nothing", at, next)
	}
}

// Who leaves them early is asked no more.
func TestBoundsAreLeft(t *testing.T) {
	for at, next := range bounds(touching(9, 2)) {
		if at != 0 || next != 2 {
			t.Fatalf("%d to %d came first", at, next)
		}
		break
	}
}

// looseLists are spans of all kinds, few of them rows.
func looseLists() [][]api.Span {
	next := chance(134)
	lists := [][]api.Span{
		nil, {}, {{}},
		{of(0, 5, 1, 7), of(5, 9, 2, 0), of(12, 13, 3, 0)},
		{of(0, 5, 1, 7), of(3, 9, 2, 9)},
		{of(3, 9, 2, 9), of(0, 5, 1, 7)},
		{of(4, 4, 1, 1), of(4, 5, 2, 2), of(4, 6, 3, 3)},
		{of(9, 1, 1, 1), of(2, 3, 2, 2), of(8, -8, 3, 3), of(-8, 8, -4, -4)},
		{of(2, 7, 1, 1), of(2, 7, 1, 1), of(2, 7, 2, 2)},
		{of(api.MinInt, api.MaxInt, api.MaxInt, api.MinInt)},
		{of(api.MaxInt, api.MinInt, 1, 1), of(api.MinInt, 0, api.MinInt, api.MaxInt), of(0, api.MaxInt, 2, 3)},
		{of(api.MaxInt, api.MaxInt, 1, 1), of(api.MinInt, api.MinInt, 1, 1)},
		emptyOnes(), touching(600, 2), touching(9, 1), crossed(40),
		{of(0, 3, 1, 1), of(3, 6, 1, 1), of(5, 9, 1, 1), of(0, 9, 1, 2)},
	}
	for range 150 {
		var l []api.Span
		for range next(9) {
			l = append(l, of(next(20)-5, next(20)-5, next(5)-2, next(5)-2))
		}
		lists = append(lists, l)
	}
	return lists
}

// firstIn is the first span that an instant is in, by the chapter's words.
func firstIn(l []api.Span, t int) (api.Span, bool) {
	i := slices.IndexFunc(l, func(s api.Span) bool { return !(t < s.From) && t < s.To })
	if i < 0 {
		return api.Span{}, false
	}
	return l[i], true
}

func TestP13_2At(t *testing.T) {
	for _, l := range looseLists() {
		for _, at := range append(edges(l), instants(-9, 20)...) {
			got, is := At(l, at)
			if want, should := firstIn(l, at); got != want || is != should {
				t.Fatalf("At(%v, %d) = %v, %v, want %v, %v", l, at, got, is, want, should)
			}
		}
	}
}

func TestP13_2AtByHand(t *testing.T) {
	apart := spans(of(0, 5, 1, 7), of(5, 9, 2, -3), of(12, 13, 3, 0))
	over := spans(of(4, 4, 8, 8), of(3, 9, 2, 1), of(9, 3, 9, 9), of(0, 5, 1, 7), of(5, 9, 6, 99))
	far := spans(of(api.MinInt, -1, -4, api.MinInt), of(-1, api.MaxInt, api.MaxInt, api.MaxInt))
	none := api.Span{}
	for _, x := range []struct {
		l    []api.Span
		at   int
		want api.Span
		is   bool
	}{
		{apart, -1, none, false}, {apart, 0, apart[0], true}, {apart, 1, apart[0], true}, {apart, 4, apart[0], true},
		{apart, 5, apart[1], true}, {apart, 6, apart[1], true}, {apart, 8, apart[1], true}, {apart, 9, none, false}, {apart, 11, none, false},
		{apart, 12, apart[2], true}, {apart, 13, none, false}, {apart, 14, none, false}, {apart, api.MinInt, none, false}, {apart, api.MaxInt, none, false},
		{over, 2, over[3], true}, {over, 3, over[1], true}, {over, 4, over[1], true}, {over, 5, over[1], true}, {over, 8, over[1], true}, {over, 9, none, false},
		{far, api.MinInt, far[0], true}, {far, -2, far[0], true}, {far, -1, far[1], true}, {far, api.MaxInt - 1, far[1], true}, {far, api.MaxInt, none, false},
		{nil, 0, none, false}, {spans(), 0, none, false}, {nil, api.MinInt, none, false}, {nil, api.MaxInt, none, false},
		{spans(none), 0, none, false}, {spans(none, of(0, 1, 0, 0)), 0, of(0, 1, 0, 0), true},
	} {
		if got, is := At(x.l, x.at); got != x.want || is != x.is {
			t.Fatalf("At(%v, %d) = %v, %v, want %v, %v", x.l, x.at, got, is, x.want, x.is)
		}
	}
}

// cutOf is what of a span is between two instants, if something is, by the chapter's words.
func cutOf(s api.Span, from, to int) (api.Span, bool) {
	if s.From < from {
		s.From = from
	}
	if s.To > to {
		s.To = to
	}
	return s, s.From < s.To
}

// wantCut holds Cut to spans.
func wantCut(t *testing.T, l []api.Span, from, to int, want []api.Span) {
	t.Helper()
	if got := Cut(l, from, to); !slices.Equal(got, want) || len(want) == 0 && got != nil {
		t.Fatalf("Cut(%v, %d, %d) = %v, want %v", l, from, to, got, want)
	}
}

func TestP13_2Cut(t *testing.T) {
	for _, l := range looseLists() {
		ends := append(edges(l[:min(len(l), 9)]), -9, 0, 3, 20)
		for _, from := range ends {
			for _, to := range ends {
				var want []api.Span
				for _, s := range l {
					if piece, is := cutOf(s, from, to); is {
						want = append(want, piece)
					}
				}
				wantCut(t, l, from, to, want)
			}
		}
	}
}

func TestP13_2CutByHand(t *testing.T) {
	apart := spans(of(0, 5, 1, 7), of(5, 9, 2, -3), of(12, 13, 3, 0))
	over := spans(of(4, 4, 8, 8), of(3, 9, 2, 1), of(9, 3, 9, 9), of(0, 5, 1, 7), of(3, 9, 2, 1))
	far := spans(of(api.MinInt, -1, -4, api.MinInt), of(-1, api.MaxInt, api.MaxInt, api.MaxInt))
	for _, x := range []struct {
		l        []api.Span
		from, to int
		want     []api.Span
	}{
		{apart, 3, 12, spans(of(3, 5, 1, 7), of(5, 9, 2, -3))},
		{apart, 3, 13, spans(of(3, 5, 1, 7), of(5, 9, 2, -3), of(12, 13, 3, 0))},
		{apart, 0, 13, apart}, {apart, -1, 14, apart}, {apart, api.MinInt, api.MaxInt, apart},
		{apart, 1, 4, spans(of(1, 4, 1, 7))},
		{apart, 4, 6, spans(of(4, 5, 1, 7), of(5, 6, 2, -3))},
		{apart, 5, 9, spans(of(5, 9, 2, -3))}, {apart, 4, 5, spans(of(4, 5, 1, 7))}, {apart, 5, 6, spans(of(5, 6, 2, -3))},
		{apart, 8, 9, spans(of(8, 9, 2, -3))}, {apart, 9, 12, nil}, {apart, 10, 11, nil}, {apart, 13, 99, nil}, {apart, -99, 0, nil},
		{apart, 3, 3, nil}, {apart, 5, 5, nil}, {apart, 9, 3, nil}, {apart, 4, 3, nil}, {apart, api.MaxInt, api.MinInt, nil},
		{apart, api.MinInt, api.MinInt, nil}, {apart, api.MaxInt, api.MaxInt, nil}, {apart, api.MinInt, 1, spans(of(0, 1, 1, 7))}, {apart, 12, api.MaxInt, spans(of(12, 13, 3, 0))},
		{over, 4, 8, spans(of(4, 8, 2, 1), of(4, 5, 1, 7), of(4, 8, 2, 1))},
		{over, api.MinInt, api.MaxInt, spans(of(3, 9, 2, 1), of(0, 5, 1, 7), of(3, 9, 2, 1))},
		{over, 8, 4, nil}, {over, 4, 4, nil},
		{far, api.MinInt, api.MaxInt, far}, {far, api.MinInt, api.MinInt + 1, spans(of(api.MinInt, api.MinInt+1, -4, api.MinInt))},
		{far, api.MaxInt - 1, api.MaxInt, spans(of(api.MaxInt-1, api.MaxInt, api.MaxInt, api.MaxInt))},
		{far, -2, 0, spans(of(-2, -1, -4, api.MinInt), of(-1, 0, api.MaxInt, api.MaxInt))},
		{touching(3, 1), 1, 5, spans(of(1, 2, 0, 0), of(2, 4, 0, 1), of(4, 5, 0, 2))},
		{spans(of(0, 3, 1, 1), of(3, 6, 1, 1)), 2, 5, spans(of(2, 3, 1, 1), of(3, 5, 1, 1))},
		{nil, 0, 9, nil}, {spans(), 0, 9, nil}, {spans(api.Span{}), -1, 1, nil}, {spans(of(7, 2, 1, 1)), 0, 9, nil},
		{nil, api.MinInt, api.MaxInt, nil}, {nil, api.MaxInt, api.MinInt, nil},
	} {
		wantCut(t, x.l, x.from, x.to, x.want)
	}
}

// What is left of a span has just those of its instants that lie between.
func TestP13_2CutInstantByInstant(t *testing.T) {
	next := chance(135)
	for range 3000 {
		s := of(next(12)-2, next(12)-2, 3, 4)
		from, to := next(14)-3, next(14)-3
		cut := Cut(spans(s), from, to)
		for at := -5; at <= 15; at++ {
			_, is := At(cut, at)
			if _, was := At(spans(s), at); is != (was && from <= at && at < to) {
				t.Fatalf("Cut(%v, %d, %d) = %v: at %d %v", s, from, to, cut, at, is)
			}
		}
	}
}

// resolvedRows are rows that Resolve answers, none of more spans than may be.
func resolvedRows(t *testing.T) [][]api.Span {
	t.Helper()
	next := chance(136)
	lists := [][]api.Span{nil, spans(of(0, 10, 1, 0), of(3, 5, 2, 1)), touching(499, 3), crossed(249), nested(250), farSpans(5)}
	for range 300 {
		lists = append(lists, anySpans(next, next(12), 5+next(40)))
	}
	for range 10 {
		lists = append(lists, anySpans(next, 250, 2000))
	}
	for range 100 {
		l := farSpans(1)
		next := chance(uint64(next(1 << 30)))
		for i := range l {
			l[i].Mode = next(3)
		}
		lists = append(lists, l[next(90):100+next(90)])
	}
	var rows [][]api.Span
	for _, l := range lists {
		rows = append(rows, wantResolved(t, l))
	}
	return rows
}

func TestP13_3ResolvedToItself(t *testing.T) {
	for _, row := range resolvedRows(t) {
		wantRow(t, row, row)
		back := slices.Clone(row)
		slices.Reverse(back)
		wantRow(t, back, row)
	}
}

func TestP13_3CutInTwo(t *testing.T) {
	for _, row := range resolvedRows(t) {
		for _, at := range edges(row) {
			ahead, behind := Cut(row, api.MinInt, at), Cut(row, at, api.MaxInt)
			if s, is := At(row, at); is && s.From < at {
				if len(ahead) == 0 || len(behind) == 0 || ahead[len(ahead)-1] != of(s.From, at, s.Mode, 0) || behind[0] != of(at, s.To, s.Mode, 0) {
					t.Fatalf("%v cut at %d: %v and %v", row, at, ahead, behind)
				}
			}
			for _, both := range [][]api.Span{slices.Concat(ahead, behind), slices.Concat(behind, ahead)} {
				if again, err := Resolve(both); err != api.OK || !slices.Equal(again, row) {
					t.Fatalf("%v cut at %d and resolved = %v, %d", row, at, again, err)
				}
			}
		}
	}
}

func TestP13_3CutInMany(t *testing.T) {
	row := wantResolved(t, crossed(30))
	var pieces []api.Span
	for at := -5; at < 70; at++ {
		cut := Cut(row, at, at+1)
		if _, is := At(row, at); len(cut) > 1 || is != (len(cut) == 1) {
			t.Fatalf("Cut(%v, %d, %d) = %v", row, at, at+1, cut)
		}
		pieces = append(pieces, cut...)
	}
	for _, l := range [][]api.Span{pieces, slices.Concat(pieces, row), slices.Concat(row, pieces)} {
		wantRow(t, l, row)
	}
}

// What 500 spans come to may be more than 500: then they may not be, but what is cut of them may.
func TestP13_3MoreThanMayBe(t *testing.T) {
	for _, l := range [][]api.Span{crossed(499), nested(500)} {
		row := wantResolved(t, l)
		wantForm(t, row)
		middle := row[len(row)/2].From
		for _, half := range [][]api.Span{Cut(row, api.MinInt, middle), Cut(row, middle, api.MaxInt)} {
			wantRow(t, half, half)
		}
	}
	row := wantResolved(t, touching(500, 2))
	wantRow(t, row, row)
	wantForm(t, slices.Concat(Cut(row, api.MinInt, 501), Cut(row, 501, api.MaxInt)))
}

// roomy is spans with spare room behind them, and all of them with that room.
func roomy(l []api.Span) (short, all []api.Span) {
	all = slices.Concat(l, spans(of(101, 202, 7, 9), of(-3, 4, 8, 99), of(6, 5, 4, 3), api.Span{}))
	return all[:len(l)], all
}

// memoryLists are spans of all kinds: also rows that come to themselves, and ones that may not be.
func memoryLists(t *testing.T) [][]api.Span {
	t.Helper()
	lists := append(looseLists(), resolvedRows(t)[:60]...)
	return append(lists, touching(500, 2), crossed(499), spans(of(9, 12, 1, 3), of(0, 10, 2, 1), of(4, 6, 1, 2)))
}

func TestSpansAreLeftAsTheyWere(t *testing.T) {
	for _, list := range memoryLists(t) {
		l, all := roomy(list)
		kept := slices.Clone(all)
		Resolve(l)
		for _, at := range []int{api.MinInt, -1, 0, 3, 150, api.MaxInt} {
			At(l, at)
			Cut(l, at, 5)
			Cut(l, -2, at)
			Cut(l, at, api.MaxInt)
			Cut(l, api.MinInt, at)
		}
		if !slices.Equal(all, kept) {
			t.Fatalf("%v became %v", kept, all)
		}
	}
}

// overwrite changes each span, in the spare room too.
func overwrite(l []api.Span) {
	l = l[:cap(l)]
	for i := range l {
		l[i] = of(-77, 77+i, 77, 77)
	}
}

// wantNewMemory holds a call's answers to be its own: they hang neither on what was handed in, nor on one another.
func wantNewMemory(t *testing.T, list []api.Span, ask func(l []api.Span) []api.Span) {
	t.Helper()
	want := slices.Clone(ask(list))
	l, all := roomy(list)
	one, two := ask(l), ask(l)
	overwrite(all)
	if !slices.Equal(one, want) || !slices.Equal(two, want) {
		t.Fatalf("%v, or %v, hang on spans that were changed: %v", one, two, list)
	}
	l, all = roomy(list)
	kept := slices.Clone(all)
	one = ask(l)
	overwrite(one)
	if !slices.Equal(two, want) || !slices.Equal(all, kept) || !slices.Equal(ask(l), want) {
		t.Fatalf("%v, or %v, hang on an earlier answer", two, list)
	}
	overwrite(l)
	if !slices.Equal(ask(list), want) {
		t.Fatalf("what is answered to %v hangs on spans that were handed in ahead", list)
	}
}

func TestAnswersAreNewMemory(t *testing.T) {
	for _, list := range memoryLists(t) {
		wantNewMemory(t, list, func(l []api.Span) []api.Span {
			row, _ := Resolve(l)
			return row
		})
		for _, x := range [][2]int{{api.MinInt, api.MaxInt}, {0, 9}, {3, 5}, {-9, 4}, {5, 3}, {4, 4}} {
			wantNewMemory(t, list, func(l []api.Span) []api.Span { return Cut(l, x[0], x[1]) })
		}
		wantNewMemory(t, list, func(l []api.Span) []api.Span {
			if s, is := At(l, 4); is {
				return spans(s)
			}
			return nil
		})
	}
}

// What is answered next hangs on nothing that was asked ahead.
func TestNothingIsKept(t *testing.T) {
	one, other := spans(of(0, 10, 1, 0), of(3, 5, 2, 1)), spans(of(4, 20, 3, 99), of(-9, 2, 4, 99))
	want := spans(of(0, 3, 1, 0), of(3, 5, 2, 0), of(5, 10, 1, 0))
	wantRow(t, one, want)
	wantRow(t, other, spans(of(-9, 2, 4, 0), of(4, 20, 3, 0)))
	wantForm(t, spans(of(1, 1, 1, 1)))
	wantRow(t, nil, nil)
	wantRow(t, one, want)
}

// wantEnds holds all calls to end, whatever they are given, and to answer nothing beside an error, or a false.
func wantEnds(t *testing.T, l []api.Span, a, b int) {
	t.Helper()
	if row, err := Resolve(l); err != api.OK && (row != nil || err != api.ErrSpanForm) {
		t.Fatalf("Resolve(%v) = %v, %d", l, row, err)
	}
	if s, is := At(l, a); !is && s != (api.Span{}) {
		t.Fatalf("At(%v, %d) = %v, false", l, a, s)
	}
	for i, s := range Cut(l, a, b) {
		if s.From >= s.To || s.From < a || s.To > b {
			t.Fatalf("Cut(%v, %d, %d) has %v at %d", l, a, b, s, i)
		}
	}
}

func TestP1AllArgumentsEnd(t *testing.T) {
	next := chance(137)
	number := func() int {
		far := farTimes()
		return far[next(len(far))] + next(7) - 3
	}
	for range 20000 {
		var l []api.Span
		for range next(7) {
			l = append(l, of(number(), number(), number(), number()))
		}
		wantEnds(t, l, number(), number())
	}
	wantEnds(t, make([]api.Span, 1<<20), api.MinInt, api.MaxInt)
}
