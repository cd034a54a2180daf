package divs

import (
	"math/big"
	"testing"

	"newel/api"
)

// edges are the numbers at which sums and products leave the whole numbers, and ordinary ones between them.
func edges() []int {
	return []int{
		api.MinInt, api.MinInt + 1, api.MinInt + 2, api.MinInt/2 - 1, api.MinInt / 2, api.MinInt/2 + 1,
		-1441, -1440, -1439, -7, -3, -2, -1, 0, 1, 2, 3, 7, 1439, 1440, 1441,
		api.MaxInt/2 - 1, api.MaxInt / 2, api.MaxInt/2 + 1, api.MaxInt - 2, api.MaxInt - 1, api.MaxInt,
	}
}

// times is a product as it is, above MaxInt and below MinInt too.
func times(x, b int) *big.Int {
	return new(big.Int).Mul(big.NewInt(int64(x)), big.NewInt(int64(b)))
}

// further is x + n, as it is.
func further(x *big.Int, n int) *big.Int {
	return new(big.Int).Add(x, big.NewInt(int64(n)))
}

// checkDivision holds the three answers against the words of P1.1.
func checkDivision(t *testing.T, a, b int) {
	t.Helper()
	q, errQ := Div(a, b)
	m, errM := Mod(a, b)
	c, errC := Ceil(a, b)
	if errQ != api.OK || errM != api.OK || errC != api.OK {
		t.Fatalf("%d by %d: errors %d, %d, %d", a, b, errQ, errM, errC)
	}
	whole := big.NewInt(int64(a))
	if times(q, b).Cmp(whole) > 0 || further(times(q, b), b).Cmp(whole) <= 0 {
		t.Errorf("Div(%d, %d) = %d is not the greatest", a, b, q)
	}
	if m < 0 || m >= b || further(times(q, b), m).Cmp(whole) != 0 {
		t.Errorf("Mod(%d, %d) = %d is not what is left behind %d", a, b, m, q)
	}
	if times(c, b).Cmp(whole) < 0 || further(times(c, b), -b).Cmp(whole) >= 0 {
		t.Errorf("Ceil(%d, %d) = %d is not the least", a, b, c)
	}
}

func TestP1_1Numbers(t *testing.T) {
	for _, x := range []struct{ a, b, q, m, c int }{
		{-7, 3, -3, 2, -2}, {-7, 2, -4, 1, -3}, {7, 2, 3, 1, 4}, {6, 3, 2, 0, 2}, {-6, 3, -2, 0, -2},
		{0, 1, 0, 0, 0}, {0, api.MaxInt, 0, 0, 0}, {1, api.MaxInt, 0, 1, 1}, {-1, api.MaxInt, -1, api.MaxInt - 1, 0},
		{-1, 1, -1, 0, -1}, {1, 1, 1, 0, 1}, {1439, 1440, 0, 1439, 1}, {1440, 1440, 1, 0, 1}, {-1440, 1440, -1, 0, -1},
		{api.MaxInt, 1, api.MaxInt, 0, api.MaxInt}, {api.MinInt, 1, api.MinInt, 0, api.MinInt},
		{api.MaxInt, api.MaxInt, 1, 0, 1}, {api.MaxInt - 1, api.MaxInt, 0, api.MaxInt - 1, 1},
		{api.MinInt, api.MaxInt, -2, api.MaxInt - 1, -1}, {-api.MaxInt, api.MaxInt, -1, 0, -1},
		{api.MaxInt, api.MaxInt - 1, 1, 1, 2}, {api.MinInt, 2, api.MinInt / 2, 0, api.MinInt / 2},
	} {
		q, errQ := Div(x.a, x.b)
		m, errM := Mod(x.a, x.b)
		c, errC := Ceil(x.a, x.b)
		if q != x.q || m != x.m || c != x.c || errQ != api.OK || errM != api.OK || errC != api.OK {
			t.Errorf("%+v: got %d, %d, %d, errors %d, %d, %d", x, q, m, c, errQ, errM, errC)
		}
	}
}

func TestP1_1Everywhere(t *testing.T) {
	for a := -60; a <= 60; a++ {
		for b := 1; b <= 25; b++ {
			checkDivision(t, a, b)
		}
	}
	for _, a := range edges() {
		for _, b := range edges() {
			if b >= 1 {
				checkDivision(t, a, b)
			}
		}
	}
}

func TestP1_1WrongDivisor(t *testing.T) {
	calls := map[string]func(a, b int) (int, api.Errno){"Div": Div, "Mod": Mod, "Ceil": Ceil}
	for name, call := range calls {
		for _, a := range edges() {
			for _, b := range edges() {
				if b >= 1 {
					continue
				}
				if n, err := call(a, b); n != 0 || err != api.ErrDivsBy {
					t.Errorf("%s(%d, %d) = %d, %d", name, a, b, n, err)
				}
			}
		}
	}
}

func TestP1_2Numbers(t *testing.T) {
	for _, x := range []struct{ n, lo, hi, want int }{
		{4, 1, 5, 4}, {0, 1, 5, 1}, {9, 1, 5, 5}, {1, 1, 5, 1}, {5, 1, 5, 5}, {3, 3, 3, 3}, {2, 3, 3, 3}, {4, 3, 3, 3},
		{9, 5, 1, 5}, {0, 5, 1, 5}, {3, 5, 1, 5}, {5, 5, 1, 5}, {1, 5, 1, 5}, {6, 5, 4, 5}, {-4, -5, -1, -4}, {-9, -5, -1, -5}, {0, -5, -1, -1},
		{api.MinInt, 0, 0, 0}, {api.MaxInt, 0, 0, 0}, {api.MaxInt, api.MinInt, api.MaxInt, api.MaxInt}, {api.MinInt, api.MinInt, api.MaxInt, api.MinInt},
		{0, api.MaxInt, api.MinInt, api.MaxInt}, {api.MinInt, api.MaxInt, api.MaxInt, api.MaxInt}, {api.MaxInt, api.MinInt, api.MinInt, api.MinInt},
	} {
		if got := Clamp(x.n, x.lo, x.hi); got != x.want {
			t.Errorf("%+v: got %d", x, got)
		}
	}
}

func TestP1_2Everywhere(t *testing.T) {
	for _, n := range edges() {
		for _, lo := range edges() {
			for _, hi := range edges() {
				want := max(lo, min(n, hi))
				if got := Clamp(n, lo, hi); got != want {
					t.Errorf("Clamp(%d, %d, %d) = %d, want %d", n, lo, hi, got, want)
				}
			}
		}
	}
}

func TestP1_3Numbers(t *testing.T) {
	for _, x := range []struct {
		a, b, r, want int
		err           api.Errno
	}{
		{9, 7, 1, 15, 0}, {8, 7, 1, 8, 0}, {7, 7, 1, 8, 0}, {-9, 7, 6, -8, 0}, {-8, 7, 6, -8, 0}, {-7, 7, 6, -1, 0}, {0, 1, 0, 0, 0},
		{0, api.MaxInt, api.MaxInt - 1, api.MaxInt - 1, 0}, {api.MaxInt, 1, 0, api.MaxInt, 0}, {api.MinInt, 1, 0, api.MinInt, 0},
		{api.MinInt, api.MaxInt, 0, -api.MaxInt, 0}, {api.MinInt, api.MaxInt, api.MaxInt - 1, api.MinInt, 0}, {api.MinInt, api.MaxInt, api.MaxInt - 2, -2, 0},
		{api.MaxInt, 2, 1, api.MaxInt, 0}, {api.MaxInt - 1, 2, 1, api.MaxInt, 0}, {api.MaxInt, api.MaxInt, 0, api.MaxInt, 0}, {1, api.MaxInt, 0, api.MaxInt, 0},
		{api.MaxInt, 2, 0, 0, api.ErrDivsGreat}, {api.MaxInt, api.MaxInt, 1, 0, api.ErrDivsGreat}, {2, api.MaxInt, 1, 0, api.ErrDivsGreat},
		{api.MaxInt, api.MaxInt, api.MaxInt - 1, 0, api.ErrDivsGreat}, {api.MaxInt - 1, 10, 5, 0, api.ErrDivsGreat}, {api.MaxInt - 1, 10, 7, api.MaxInt, 0},
	} {
		if n, err := Next(x.a, x.b, x.r); n != x.want || err != x.err {
			t.Errorf("%+v: got %d, %d", x, n, err)
		}
	}
}

// leastOfRest searches as P1.3 says it, one number after the other.
func leastOfRest(t *testing.T, a, b, r int) int {
	t.Helper()
	for n := a; n < a+b; n++ {
		m, err := Mod(n, b)
		if err != api.OK {
			t.Fatalf("Mod(%d, %d): error %d", n, b, err)
		}
		if m == r {
			return n
		}
	}
	t.Fatalf("none of the %d numbers from %d on has the rest %d", b, a, r)
	return 0
}

func TestP1_3Search(t *testing.T) {
	for b := 1; b <= 15; b++ {
		for r := range b {
			for a := -40; a <= 40; a++ {
				want := leastOfRest(t, a, b, r)
				if n, err := Next(a, b, r); n != want || err != api.OK {
					t.Errorf("Next(%d, %d, %d) = %d, %d, want %d", a, b, r, n, err, want)
				}
			}
		}
	}
}

// checkNext holds an answer against P1.3, where r is a rest of b.
func checkNext(t *testing.T, a, b, r int) {
	t.Helper()
	gap := new(big.Int).Sub(big.NewInt(int64(r)), big.NewInt(int64(a)))
	gap.Mod(gap, big.NewInt(int64(b)))
	want := gap.Add(gap, big.NewInt(int64(a)))
	n, err := Next(a, b, r)
	switch {
	case !want.IsInt64():
		if n != 0 || err != api.ErrDivsGreat {
			t.Errorf("Next(%d, %d, %d) = %d, %d, but %s is above MaxInt", a, b, r, n, err, want)
		}
	case err != api.OK || int64(n) != want.Int64():
		t.Errorf("Next(%d, %d, %d) = %d, %d, want %s", a, b, r, n, err, want)
	}
}

func TestP1_3EverywhereWithErrorsInOrder(t *testing.T) {
	for _, a := range edges() {
		for _, b := range edges() {
			for _, r := range append(edges(), b-2, b-1, b, b+1) {
				n, err := Next(a, b, r)
				switch {
				case b < 1:
					if n != 0 || err != api.ErrDivsBy {
						t.Errorf("Next(%d, %d, %d) = %d, %d, want ErrDivsBy", a, b, r, n, err)
					}
				case r < 0 || r >= b:
					if n != 0 || err != api.ErrDivsRest {
						t.Errorf("Next(%d, %d, %d) = %d, %d, want ErrDivsRest", a, b, r, n, err)
					}
				default:
					checkNext(t, a, b, r)
				}
			}
		}
	}
}

func TestP1_4BFurtherOn(t *testing.T) {
	for _, a := range append(edges(), 5, 100, -100) {
		for _, b := range edges() {
			if b < 1 || a > api.MaxInt-b {
				continue
			}
			q, errQ := Div(a, b)
			q2, errQ2 := Div(a+b, b)
			m, errM := Mod(a, b)
			m2, errM2 := Mod(a+b, b)
			if errQ != api.OK || errQ2 != api.OK || errM != api.OK || errM2 != api.OK {
				t.Fatalf("%d by %d: an error", a, b)
			}
			if q2 != q+1 || m2 != m {
				t.Errorf("%d by %d: %d and %d; b further on %d and %d", a, b, q, m, q2, m2)
			}
		}
	}
}

func TestP1_4CeilIsDivOrOneMore(t *testing.T) {
	for _, a := range append(edges(), 5, 100, -100) {
		for _, b := range edges() {
			if b < 1 {
				continue
			}
			q, _ := Div(a, b)
			m, _ := Mod(a, b)
			c, err := Ceil(a, b)
			want := q
			if m != 0 {
				want++
			}
			if c != want || err != api.OK {
				t.Errorf("Ceil(%d, %d) = %d, %d, want %d", a, b, c, err, want)
			}
		}
	}
}
