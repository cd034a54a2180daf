// Package divs is layer 1: whole numbers, divided down, and a search. See shared/doc/01-divs.md.
package divs

import (
	"cmp"

	"newel/api"
)

// Div is the greatest number that, times b, is not above a.
func Div(a, b int) (int, api.Errno) {
	if b < 1 {
		return 0, api.ErrDivsBy
	}
	quotient, _ := divideDown(a, b)
	return quotient, api.OK
}

// Mod is what is left of a behind it.
func Mod(a, b int) (int, api.Errno) {
	if b < 1 {
		return 0, api.ErrDivsBy
	}
	_, rest := divideDown(a, b)
	return rest, api.OK
}

// Ceil is the least number that, times b, is not below a.
func Ceil(a, b int) (int, api.Errno) {
	if b < 1 {
		return 0, api.ErrDivsBy
	}
	quotient, rest := divideDown(a, b)
	if rest > 0 {
		quotient++ // a rest means b is at least 2, so the quotient is far from MaxInt
	}
	return quotient, api.OK
}

// Clamp is the number between two that is nearest.
func Clamp(n, lo, hi int) int {
	return nearest(n, lo, hi)
}

// Next is the least number from a on of a rest.
func Next(a, b, r int) (int, api.Errno) {
	if b < 1 {
		return 0, api.ErrDivsBy
	}
	if r < 0 || r >= b {
		return 0, api.ErrDivsRest
	}
	_, rest := divideDown(a, b)
	gap := r - rest

again:
	if gap < 0 {
		gap += b // the rest lies behind a: it comes round b later
		goto again
	}

	// The sum may be above MaxInt, so the gap is held against the room that is left.
	if a > api.MaxInt-gap {
		return 0, api.ErrDivsGreat
	}
	return a + gap, api.OK
}

// divideDown divides by a b of at least 1. It corrects Go's own division, which goes towards 0, instead of multiplying: products may not fit.
func divideDown(a, b int) (quotient, rest int) {
	quotient, rest = a/b, a%b
	if rest < 0 {
		quotient--
		rest += b
	}
	return quotient, rest
}

// nearest favours lo where the two ends are crossed.
func nearest[T cmp.Ordered](n, lo, hi T) T {
	switch {
	case n < lo || hi < lo:
		return lo
	case n > hi:
		return hi
	}
	return n
}
