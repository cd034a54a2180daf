package clock

import (
	"slices"
	"testing"

	"newel/api"
)

// set is a clock that tells a time, without a candidate.
func set(now int) api.Clock {
	return api.Clock{Set: true, Now: now}
}

// with is a clock that tells a time, and has a candidate.
func with(now, cand int) api.Clock {
	return api.Clock{Set: true, Now: now, Has: true, Cand: cand}
}

// chance makes a row of numbers without an order, the same one from each beginning.
func chance(seed uint64) func(below int) int {
	return func(below int) int {
		seed = seed*6364136223846793005 + 1442695040888963407
		return int((seed ^ seed>>29) >> 16 % uint64(below))
	}
}

// edges are numbers about all bounds, and about the two steps from them.
func edges() []int {
	all := []int{api.MinInt, api.MinInt + 1, api.MinInt + api.MaxStep, -1 << 40, -api.MaxTime, 5000, 1 << 40, api.MaxInt - api.MaxStep, api.MaxInt - 1, api.MaxInt}
	for _, at := range []int{0, api.MaxTime} {
		for _, step := range []int{0, api.MaxAgree, api.MaxStep} {
			for _, off := range []int{-1, 0, 1} {
				all = append(all, at+step+off, at-step+off)
			}
		}
	}
	slices.Sort(all)
	return slices.Compact(all)
}

// clocksOf are all clocks of some numbers.
func clocksOf(numbers []int) []api.Clock {
	var all []api.Clock
	for _, now := range numbers {
		for _, cand := range numbers {
			all = append(all, api.Clock{Now: now, Cand: cand}, api.Clock{Set: true, Now: now, Cand: cand}, api.Clock{Has: true, Now: now, Cand: cand}, with(now, cand))
		}
	}
	return all
}

// mayBe is whether a clock may be, by the chapter's words.
func mayBe(c api.Clock) bool {
	if c.Now < 0 || c.Now > api.MaxTime || c.Cand < 0 || c.Cand > api.MaxTime {
		return false
	}
	if !c.Set && c.Now != 0 {
		return false
	}
	if !c.Has && c.Cand != 0 {
		return false
	}
	return !c.Has || c.Set
}

// reckon is what a reading comes to, of a clock that may be, by the chapter's words.
func reckon(c api.Clock, r int) (api.Clock, bool) {
	if r < 0 || r > api.MaxTime {
		return c, false
	}
	is := !c.Set
	if r >= c.Now && r <= c.Now+1440 {
		is = true
	}
	if c.Has && r >= c.Cand && r <= c.Cand+60 {
		is = true
	}
	if is {
		return set(r), true
	}
	return api.Clock{Set: c.Set, Now: c.Now, Has: true, Cand: r}, false
}

// wantMayBe holds Check to OK.
func wantMayBe(t *testing.T, l ...api.Clock) {
	t.Helper()
	for _, c := range l {
		if err := Check(c); err != api.OK {
			t.Fatalf("Check(%v) = %d", c, err)
		}
	}
}

// wantForm holds all three calls to the error of a clock that may not be, and to nothing else.
func wantForm(t *testing.T, c api.Clock, r int) {
	t.Helper()
	if err := Check(c); err != api.ErrClockForm {
		t.Fatalf("Check(%v) = %d, want ErrClockForm", c, err)
	}
	if next, trusted, err := Read(c, r); next != (api.Clock{}) || trusted || err != api.ErrClockForm {
		t.Fatalf("Read(%v, %d) = %v, %v, %d, want ErrClockForm", c, r, next, trusted, err)
	}
	for _, l := range [][]int{nil, {}, {r}, {r, r, r}} {
		if next, count, err := All(c, l); next != (api.Clock{}) || count != 0 || err != api.ErrClockForm {
			t.Fatalf("All(%v, %v) = %v, %d, %d, want ErrClockForm", c, l, next, count, err)
		}
	}
}

// wantRead holds Read, and All of one reading, to what is behind it.
func wantRead(t *testing.T, c api.Clock, r int, want api.Clock, trusts bool) {
	t.Helper()
	if next, trusted, err := Read(c, r); next != want || trusted != trusts || err != api.OK {
		t.Fatalf("Read(%v, %d) = %v, %v, %d, want %v, %v", c, r, next, trusted, err, want, trusts)
	}
	many := 0
	if trusts {
		many = 1
	}
	wantAll(t, c, []int{r}, want, many)
}

// wantTrusted holds Read to a reading that is trusted.
func wantTrusted(t *testing.T, c api.Clock, readings ...int) {
	t.Helper()
	for _, r := range readings {
		wantRead(t, c, r, set(r), true)
	}
}

// wantCandidate holds Read to a reading that is a candidate.
func wantCandidate(t *testing.T, c api.Clock, readings ...int) {
	t.Helper()
	for _, r := range readings {
		wantRead(t, c, r, with(c.Now, r), false)
	}
}

// wantNothing holds Read to a reading that is none.
func wantNothing(t *testing.T, c api.Clock, readings ...int) {
	t.Helper()
	for _, r := range readings {
		wantRead(t, c, r, c, false)
	}
}

// wantAll holds All to what is behind readings.
func wantAll(t *testing.T, c api.Clock, l []int, want api.Clock, many int) {
	t.Helper()
	if next, count, err := All(c, l); next != want || count != many || err != api.OK {
		t.Fatalf("All(%v, %v) = %v, %d, %d, want %v, %d", c, l, next, count, err, want, many)
	}
}

// noTimes are readings that are not from 0 to MaxTime.
func noTimes() []int {
	return []int{api.MinInt, api.MinInt + 1, -1 << 40, -api.MaxTime, -5000, -1, api.MaxTime + 1, api.MaxTime + 60, 1 << 40, api.MaxInt - 1, api.MaxInt}
}

func TestP16_1ClocksThatMayBe(t *testing.T) {
	wantMayBe(t, api.Clock{})
	wantMayBe(t, set(0), set(1), set(5000), set(api.MaxTime-1), set(api.MaxTime))
	for _, now := range []int{0, 1, 5000, api.MaxTime} {
		wantMayBe(t, with(now, 0), with(now, 1), with(now, 9000), with(now, api.MaxTime-1), with(now, api.MaxTime))
	}
}

func TestP16_1ClocksThatMayNotBe(t *testing.T) {
	for _, c := range []api.Clock{
		set(-1), set(api.MaxTime + 1), set(api.MinInt), set(api.MaxInt),
		with(-1, 5), with(api.MaxTime+1, 5), with(api.MinInt, 5), with(api.MaxInt, 5),
		with(5, -1), with(5, api.MaxTime+1), with(5, api.MinInt), with(5, api.MaxInt),
		{Now: 1}, {Now: -1}, {Now: 5000}, {Now: api.MaxTime}, {Now: api.MaxTime + 1}, {Now: api.MinInt}, {Now: api.MaxInt},
		{Set: true, Cand: 1}, {Set: true, Cand: -1}, {Set: true, Now: 5000, Cand: 9000}, {Set: true, Cand: api.MaxTime}, {Set: true, Cand: api.MaxTime + 1}, {Set: true, Cand: api.MinInt}, {Set: true, Cand: api.MaxInt},
		{Cand: 1}, {Cand: -1}, {Cand: api.MaxTime},
		{Has: true}, {Has: true, Cand: 1}, {Has: true, Cand: api.MaxTime}, {Has: true, Now: 5000}, {Has: true, Now: 5000, Cand: 9000},
	} {
		for _, r := range []int{api.MinInt, -1, 0, 1, 5, 5000, 9000, api.MaxTime, api.MaxTime + 1, api.MaxInt} {
			wantForm(t, c, r)
		}
	}
}

func TestP16_1AllClocksOfEdges(t *testing.T) {
	for _, c := range clocksOf(edges()) {
		if mayBe(c) {
			wantMayBe(t, c)
		} else {
			wantForm(t, c, 5)
		}
	}
}

func TestP16_1NotSet(t *testing.T) {
	wantTrusted(t, api.Clock{}, 0, 1, 60, 61, 1440, 1441, 5000, api.MaxTime-1, api.MaxTime)
	wantNothing(t, api.Clock{}, noTimes()...)
}

func TestP16_1WithoutACandidate(t *testing.T) {
	wantTrusted(t, set(5000), 5000, 5001, 5060, 5061, 6439, 6440)
	wantCandidate(t, set(5000), 0, 1, 3560, 4940, 4999, 6441, 9000, api.MaxTime-1, api.MaxTime)
	wantNothing(t, set(5000), noTimes()...)
	wantTrusted(t, set(0), 0, 1, 1440)
	wantCandidate(t, set(0), 1441, api.MaxTime)
	wantNothing(t, set(0), noTimes()...)
	wantTrusted(t, set(api.MaxTime), api.MaxTime)
	wantCandidate(t, set(api.MaxTime), 0, api.MaxTime-1440, api.MaxTime-1)
	wantNothing(t, set(api.MaxTime), noTimes()...)
	wantTrusted(t, set(api.MaxTime-1440), api.MaxTime-1440, api.MaxTime)
	wantTrusted(t, set(api.MaxTime-1441), api.MaxTime-1)
	wantCandidate(t, set(api.MaxTime-1441), api.MaxTime)
}

// A candidate above Now that is far off, one below it, and one that is the same.
func TestP16_1WithACandidate(t *testing.T) {
	for _, cand := range []int{9000, 20000, 3000, 70, 4999} {
		c := with(5000, cand)
		wantTrusted(t, c, cand, cand+1, cand+59, cand+60)
		wantTrusted(t, c, 5000, 5001, 6440)
		wantCandidate(t, c, cand-1, 0, 6441, api.MaxTime)
		wantNothing(t, c, noTimes()...)
	}
	wantCandidate(t, with(5000, 9000), 9061, 8999, 4999)
	wantCandidate(t, with(5000, 3000), 3061, 2999, 4999)
	same := with(5000, 5000)
	wantTrusted(t, same, 5000, 5060, 5061, 6440)
	wantCandidate(t, same, 4999, 6441)
	wantNothing(t, same, noTimes()...)
}

// What both trust, what one of them alone trusts, and what lies between them.
func TestP16_1BothTrust(t *testing.T) {
	near := with(5000, 6441)
	wantTrusted(t, near, 6440, 6441, 6501)
	wantCandidate(t, near, 6502, 4999)
	over := with(5000, 6400)
	wantTrusted(t, over, 6399, 6400, 6440, 6441, 6460)
	wantCandidate(t, over, 6461, 4999)
	below := with(5000, 4970)
	wantTrusted(t, below, 4970, 4999, 5000, 5030, 5031, 6440)
	wantCandidate(t, below, 4969, 6441)
}

func TestP16_1CandidatesAtTheEnds(t *testing.T) {
	first := with(5000, 0)
	wantTrusted(t, first, 0, 60, 5000)
	wantCandidate(t, first, 61, 4999, api.MaxTime)
	wantNothing(t, first, noTimes()...)
	last := with(5000, api.MaxTime)
	wantTrusted(t, last, api.MaxTime, 5000)
	wantCandidate(t, last, 0, api.MaxTime-1)
	wantNothing(t, last, noTimes()...)
	wantTrusted(t, with(0, api.MaxTime-60), api.MaxTime-60, api.MaxTime)
	wantCandidate(t, with(0, api.MaxTime-61), api.MaxTime, api.MaxTime-62)
	wantTrusted(t, with(api.MaxTime, 0), 0, 60, api.MaxTime)
	wantCandidate(t, with(api.MaxTime, 0), 61, api.MaxTime-1)
}

func TestP16_1AllReadingsOfEdges(t *testing.T) {
	numbers := edges()
	for _, c := range clocksOf(numbers) {
		if !mayBe(c) {
			continue
		}
		for _, r := range numbers {
			want, is := reckon(c, r)
			wantRead(t, c, r, want, is)
		}
	}
}

func TestP16_2NoReadings(t *testing.T) {
	for _, c := range []api.Clock{{}, set(0), set(5000), set(api.MaxTime), with(5000, 9000), with(0, 0)} {
		wantAll(t, c, nil, c, 0)
		wantAll(t, c, []int{}, c, 0)
		wantAll(t, c, make([]int, 0, 9), c, 0)
	}
}

func TestP16_2ManyReadings(t *testing.T) {
	wantAll(t, api.Clock{}, []int{7}, set(7), 1)
	wantAll(t, api.Clock{}, []int{7, 8, 9}, set(9), 3)
	wantAll(t, api.Clock{}, []int{9, 8, 7}, with(9, 7), 1)
	wantAll(t, api.Clock{}, []int{-1, 7, api.MaxTime + 1, 1447, -1, 2887}, set(2887), 3)
	wantAll(t, api.Clock{}, []int{100, 200, 9000, 50, 60, 8000, 7000}, with(60, 7000), 3)
	wantAll(t, set(5000), []int{9000, 20000, 9001}, with(5000, 9001), 0)
	wantAll(t, set(5000), []int{9000, 9010, 5001, 5002}, set(5002), 2)
	wantAll(t, set(5000), []int{5000, 5000, 5000}, set(5000), 3)
	wantAll(t, set(5000), []int{-1, api.MaxInt, api.MinInt, api.MaxTime + 1}, set(5000), 0)
	wantAll(t, with(5000, 9000), []int{-1, 9060}, set(9060), 1)
	wantAll(t, with(5000, 9000), []int{9061, 9060}, with(5000, 9060), 0)
}

// Day after day a clock goes all the way, as far as it may at once.
func TestP16_2StepByStep(t *testing.T) {
	l := make([]int, 4000)
	for i := range l {
		l[i] = i * api.MaxStep
	}
	wantAll(t, api.Clock{}, l, set(3999*api.MaxStep), 4000)
	for i := range l {
		l[i] = i * (api.MaxStep + 1)
	}
	wantAll(t, api.Clock{}, l, with(0, 3999*(api.MaxStep+1)), 1)
	for i := range l {
		l[i] = 3999 - i
	}
	wantAll(t, api.Clock{}, l, with(3999, 0), 1)
}

// readingsBySample are readings that go on from one another, jump, come back and are none, with a clock to begin with.
func readingsBySample(below func(int) int) (api.Clock, []int) {
	c := []api.Clock{{}, set(below(20000)), with(below(20000), below(20000)), with(api.MaxTime-below(3000), below(3000)), set(api.MaxTime - below(3000))}[below(5)]
	at := c.Now
	l := make([]int, below(30))
	for i := range l {
		switch below(6) {
		case 0:
			at += below(1500)
		case 1:
			at -= below(130)
		case 2:
			at = below(20000)
		case 3:
			at = c.Now + below(5) - 2 + []int{0, 60, 1440}[below(3)]
		default:
			at += below(70)
		}
		l[i] = at
	}
	return c, l
}

func TestP16_2BySamples(t *testing.T) {
	below := chance(16)
	for range 20000 {
		c, l := readingsBySample(below)
		want, many := c, 0
		for _, r := range l {
			next, is := reckon(want, r)
			wantRead(t, want, r, next, is)
			if is {
				many++
			}
			want = next
		}
		wantAll(t, c, l, want, many)
		// What is behind all is what is behind a first part, and then the rest.
		at := below(len(l) + 1)
		half, first, _ := All(c, l[:at])
		wantAll(t, half, l[at:], want, many-first)
	}
}

// Whatever a clock is made by, it may be.
func TestP16_2ClocksBehindReadingsMayBe(t *testing.T) {
	below := chance(1)
	for range 5000 {
		c, l := readingsBySample(below)
		for _, r := range l {
			c, _, _ = Read(c, r)
			wantMayBe(t, c)
		}
	}
}

func TestP16_3OneFarOffChangesNothing(t *testing.T) {
	for _, far := range []int{api.MinInt, -1, 0, 1, 4999, 6444, 9000, 5000 + 1<<20, api.MaxTime, api.MaxTime + 1, api.MaxInt} {
		for _, c := range []api.Clock{set(5000), with(5000, 2000), with(5000, 12000)} {
			next, trusted, err := Read(c, far)
			if trusted || err != api.OK || next.Now != 5000 || !next.Set {
				t.Fatalf("Read(%v, %d) = %v, %v, %d", c, far, next, trusted, err)
			}
			// What was trusted without it still is, and with the same behind it.
			wantTrusted(t, next, 5000, 5001, 6440)
			wantAll(t, c, []int{far, 5000}, set(5000), 1)
			wantAll(t, c, []int{5001, far, 5002}, set(5002), 2)
			wantAll(t, c, []int{5001, far, 5002, far, 5003, far}, mustRead(t, set(5003), far), 3)
		}
	}
}

// mustRead is the clock behind a reading.
func mustRead(t *testing.T, c api.Clock, r int) api.Clock {
	t.Helper()
	next, _, err := Read(c, r)
	if err != api.OK {
		t.Fatalf("Read(%v, %d): error %d", c, r, err)
	}
	return next
}

func TestP16_3OneFarOffBySamples(t *testing.T) {
	below := chance(3)
	for range 20000 {
		c, l := readingsBySample(below)
		if !c.Set || len(l) == 0 {
			continue
		}
		next, trusted, _ := Read(c, l[0])
		if trusted {
			continue
		}
		if next.Now != c.Now || next.Set != c.Set {
			t.Fatalf("Read(%v, %d) = %v", c, l[0], next)
		}
		r := min(c.Now+below(1441), api.MaxTime)
		wantTrusted(t, next, r)
	}
}

func TestP16_3TwoThatAgree(t *testing.T) {
	starts := []api.Clock{{}, set(0), set(5000), set(api.MaxTime), with(5000, 9000), with(5000, 100), with(5000, 5000), with(0, api.MaxTime), with(api.MaxTime, 0)}
	for _, c := range starts {
		for _, first := range []int{0, 1, 100, 4999, 5000, 6440, 6441, 8999, 9000, 9061, 1 << 30, api.MaxTime - 61, api.MaxTime - 60} {
			for _, more := range []int{0, 1, 59, 60} {
				behindFirst := mustRead(t, c, first)
				wantTrusted(t, behindFirst, first+more)
				if next, count, err := All(c, []int{first, first + more}); next != set(first+more) || count < 1 || err != api.OK {
					t.Fatalf("All(%v, %d and %d more) = %v, %d, %d", c, first, more, next, count, err)
				}
			}
		}
	}
}

func TestP16_3TwoThatAgreeBySamples(t *testing.T) {
	below := chance(2)
	for range 20000 {
		c, l := readingsBySample(below)
		c, _, _ = All(c, l)
		first := below(30000)
		if below(4) == 0 {
			first = api.MaxTime - 60 - below(3000)
		}
		wantTrusted(t, mustRead(t, c, first), first+below(61))
	}
}

// Two that don't agree are not trusted by one another.
func TestP16_3TwoThatDoNotAgree(t *testing.T) {
	wantAll(t, set(5000), []int{9000, 9061}, with(5000, 9061), 0)
	wantAll(t, set(5000), []int{9000, 8999}, with(5000, 8999), 0)
	wantAll(t, set(5000), []int{9000, 2000, 9001, 2001, 9002}, with(5000, 9002), 0)
	wantAll(t, set(5000), []int{9000, api.MaxTime + 1, 9001}, set(9001), 1)
	wantAll(t, set(5000), []int{9000, 5001, 9001}, with(5001, 9001), 1)
}

// Clocks are compared as a whole: each part of one, in whatever way it may not be, makes it another one than what it tells.
func TestClocksAreComparedAsAWhole(t *testing.T) {
	for _, c := range []api.Clock{{}, set(0), set(5000), with(0, 0), with(5000, 9000), with(-1, api.MaxInt)} {
		if told(c) != c {
			t.Fatalf("told(%v) = %v", c, told(c))
		}
	}
	for _, x := range []struct{ c, want api.Clock }{
		{api.Clock{Now: 5}, api.Clock{}}, {api.Clock{Cand: 5}, api.Clock{}}, {api.Clock{Has: true}, api.Clock{}}, {api.Clock{Has: true, Now: 5, Cand: 7}, api.Clock{}},
		{api.Clock{Set: true, Now: 5, Cand: 7}, set(5)}, {api.Clock{Set: true, Cand: -1}, set(0)},
	} {
		if told(x.c) != x.want {
			t.Fatalf("told(%v) = %v, want %v", x.c, told(x.c), x.want)
		}
	}
}

func TestHandedInIsLeftAsItWas(t *testing.T) {
	roomy := []int{5001, 9000, 9010, -1, 7, 70, 71, 72}
	want := slices.Clone(roomy)
	c := with(5000, 9000)
	for n := range len(roomy) + 1 {
		if _, _, err := All(c, roomy[:n]); err != api.OK || !slices.Equal(roomy, want) {
			t.Fatalf("All of %d readings left %v, %d", n, roomy, err)
		}
		if _, _, err := All(api.Clock{Has: true}, roomy[:n]); err != api.ErrClockForm || !slices.Equal(roomy, want) {
			t.Fatalf("All of %d readings, of no clock, left %v, %d", n, roomy, err)
		}
	}
	if c != with(5000, 9000) {
		t.Fatalf("the clock was changed: %v", c)
	}
}

func TestNothingIsKept(t *testing.T) {
	l := []int{5001, 9000}
	for range 3 {
		wantAll(t, set(5000), l, with(5001, 9000), 1)
		l[1] = 5002
		wantAll(t, set(5000), l, set(5002), 2)
		wantForm(t, api.Clock{Has: true}, 5)
		wantRead(t, api.Clock{}, 9010, set(9010), true)
		wantRead(t, set(5000), 9010, with(5000, 9010), false)
		l[1] = 9000
	}
}

func TestExample(t *testing.T) {
	wantRead(t, set(5000), 9000, with(5000, 9000), false)
	wantRead(t, with(5000, 9000), 9010, set(9010), true)
	wantAll(t, set(5000), []int{9000, 9010}, set(9010), 1)
}

func TestP1AllArgumentsEnd(t *testing.T) {
	numbers := edges()
	for _, c := range clocksOf([]int{api.MinInt, api.MinInt + 1, -1, 0, 1, 5000, api.MaxTime, api.MaxTime + 1, api.MaxInt - 1, api.MaxInt}) {
		for _, r := range numbers {
			next, trusted, err := Read(c, r)
			if err != Check(c) || err != api.OK && (next != (api.Clock{}) || trusted) {
				t.Fatalf("Read(%v, %d) = %v, %v, %d", c, r, next, trusted, err)
			}
		}
		next, count, err := All(c, numbers)
		if err != Check(c) || err != api.OK && (next != (api.Clock{}) || count != 0) || count > len(numbers) {
			t.Fatalf("All(%v, %v) = %v, %d, %d", c, numbers, next, count, err)
		}
	}
}
