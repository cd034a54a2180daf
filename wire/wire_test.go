package wire

import (
	"bytes"
	"math/big"
	"slices"
	"testing"

	"newel/api"
)

// beyond are bytes that may stand behind a number's own: none, and such as would go on with it, end it, or be one too many.
func beyond() [][]byte {
	return [][]byte{nil, {0}, {1}, {2}, {127}, {128}, {129}, {255}, {0, 0, 0}, {128, 0}, bytes.Repeat([]byte{255}, 12)}
}

// wrongPlaces are those that are not from 0 to a length.
func wrongPlaces(length int) []int {
	return []int{-1, -2, -length - 1, length + 1, length + 2, 1<<32 + length + 1, -1 << 32, api.MinInt, api.MinInt + 1, api.MaxInt - 1, api.MaxInt}
}

// edges are 0 and the numbers beside it, those at which one byte more is needed and just ahead of it, and the ends.
func edges() []int {
	list := []int{0, 1, -1, 2, -2, 3, -3, 300, -300, api.MinInt, api.MinInt + 1, api.MaxInt - 1, api.MaxInt}
	for k := 1; k <= 9; k++ {
		half := 1 << (7*k - 1)
		list = append(list, half-1, half, half+1, -half+1, -half, -half-1, -half-2)
	}
	return list
}

// numbers are the edges, all that are near 0, and some of each size without an order.
func numbers() []int {
	list := edges()
	for n := -20000; n <= 20000; n++ {
		list = append(list, n)
	}
	next := chance(8)
	for size := range 64 {
		for range 100 {
			n := int(next() >> size)
			list = append(list, n, -n, ^n)
		}
	}
	return list
}

// chance makes a row of numbers without an order, the same one from each beginning.
func chance(seed uint64) func() uint64 {
	return func() uint64 {
		seed = seed*6364136223846793005 + 1442695040888963407
		return seed ^ seed>>29
	}
}

// someBytes makes bytes without an order, of which many go on, and many are at the bounds.
func someBytes(next func() uint64, length int) []byte {
	bounds := []byte{0, 1, 2, 126, 127, 128, 129, 254, 255, 128, 255, 128}
	b := make([]byte, length)
	for i := range b {
		x := next() >> 20
		switch x % 4 {
		case 0:
			b[i] = byte(x >> 8)
		case 1:
			b[i] = bounds[(x>>8)%uint64(len(bounds))]
		default:
			b[i] = byte(x>>8) | 128
		}
	}
	return b
}

// reckonedCode is a number's code, by the chapter's words.
func reckonedCode(n int) *big.Int {
	code := big.NewInt(int64(n))
	if n < 0 {
		below := new(big.Int).Sub(big.NewInt(-1), code)
		return below.Mul(below, big.NewInt(2)).Add(below, big.NewInt(1))
	}
	return code.Mul(code, big.NewInt(2))
}

// reckoned is a number's bytes, by the chapter's words: digits are divided off.
func reckoned(n int) []byte {
	code, digit := reckonedCode(n), new(big.Int)
	var b []byte
	for len(b) == 0 || code.Sign() > 0 {
		code.DivMod(code, big.NewInt(128), digit)
		b = append(b, byte(digit.Int64()))
	}
	for i := range len(b) - 1 {
		b[i] += 128
	}
	return b
}

// reckonedNumber is the number whose bytes these are; each digit is weighed for itself.
func reckonedNumber(own []byte) int {
	code, weight := big.NewInt(0), big.NewInt(1)
	for _, x := range own {
		digit := big.NewInt(int64(x) & 127)
		code.Add(code, digit.Mul(digit, weight))
		weight.Mul(weight, big.NewInt(128))
	}
	half, odd := new(big.Int).DivMod(code, big.NewInt(2), new(big.Int))
	if odd.Sign() != 0 {
		half.Sub(big.NewInt(-1), half)
	}
	return int(half.Int64())
}

// reckonedGet is Get by the words of P8.1, one after the other.
func reckonedGet(b []byte, at int) (int, int, api.Errno) {
	if at < 0 || at > len(b) {
		return 0, 0, api.ErrWireAt
	}
	rest := b[at:]
	last := slices.IndexFunc(rest, func(x byte) bool { return x < 128 })
	switch {
	case (last < 0 || last >= 9) && len(rest) >= 10 && rest[9] > 1:
		return 0, 0, api.ErrWireLong
	case last < 0:
		return 0, 0, api.ErrWireShort
	case last > 0 && rest[last] == 0:
		return 0, 0, api.ErrWireLong
	}
	return reckonedNumber(rest[:last+1]), at + last + 1, api.OK
}

// reckonedRow is Row by the words of P8.2.
func reckonedRow(l []int) []byte {
	row := reckoned(len(l))
	for _, n := range l {
		row = append(row, reckoned(n)...)
	}
	return row
}

// reckonedGetRow is GetRow by the words of P8.2, for rows of few numbers.
func reckonedGetRow(b []byte, at, most int) ([]int, int, api.Errno) {
	count, at, err := reckonedGet(b, at)
	if err != api.OK {
		return nil, 0, err
	}
	if count < 0 || count > most {
		return nil, 0, api.ErrWireMany
	}
	var list []int
	for len(list) < count {
		var n int
		if n, at, err = reckonedGet(b, at); err != api.OK {
			return nil, 0, err
		}
		list = append(list, n)
	}
	return list, at, api.OK
}

// wantGet holds Get to a number and the place behind it.
func wantGet(t *testing.T, b []byte, at, want, behind int) {
	t.Helper()
	if n, place, err := Get(b, at); n != want || place != behind || err != api.OK {
		t.Errorf("Get(%v, %d) = %d, %d, %d, want %d, %d", b, at, n, place, err, want, behind)
	}
}

// wantNoGet holds Get to an error, with 0 and 0.
func wantNoGet(t *testing.T, b []byte, at int, want api.Errno) {
	t.Helper()
	if n, place, err := Get(b, at); n != 0 || place != 0 || err != want {
		t.Errorf("Get(%v, %d) = %d, %d, %d, want 0, 0, %d", b, at, n, place, err, want)
	}
}

// wantNoGetAnywhere holds Get to an error of bytes, at the begin of all and behind others.
func wantNoGetAnywhere(t *testing.T, b []byte, want api.Errno) {
	t.Helper()
	for _, ahead := range beyond() {
		wantNoGet(t, slices.Concat(ahead, b), len(ahead), want)
	}
}

// wantRow holds GetRow to numbers and the place behind them.
func wantRow(t *testing.T, b []byte, at, most int, want []int, behind int) {
	t.Helper()
	if l, place, err := GetRow(b, at, most); !slices.Equal(l, want) || place != behind || err != api.OK {
		t.Errorf("GetRow(%v, %d, %d) = %v, %d, %d, want %v, %d", b, at, most, l, place, err, want, behind)
	}
}

// wantNoRow holds GetRow to an error, with no numbers and 0.
func wantNoRow(t *testing.T, b []byte, at, most int, want api.Errno) {
	t.Helper()
	if l, place, err := GetRow(b, at, most); l != nil || place != 0 || err != want {
		t.Errorf("GetRow(%v, %d, %d) = %v, %d, %d, want none, 0, %d", b, at, most, l, place, err, want)
	}
}

func TestP8_1Examples(t *testing.T) {
	for _, x := range []struct {
		n    int
		want []byte
	}{
		{0, []byte{0}}, {-1, []byte{1}}, {1, []byte{2}}, {-2, []byte{3}}, {2, []byte{4}},
		{300, []byte{216, 4}}, {-300, []byte{215, 4}},
		{63, []byte{126}}, {-64, []byte{127}}, {64, []byte{128, 1}}, {-65, []byte{129, 1}},
		{8191, []byte{254, 127}}, {-8192, []byte{255, 127}}, {8192, []byte{128, 128, 1}}, {-8193, []byte{129, 128, 1}},
		{1<<62 - 1, []byte{254, 255, 255, 255, 255, 255, 255, 255, 127}}, {-1 << 62, []byte{255, 255, 255, 255, 255, 255, 255, 255, 127}},
		{1 << 62, []byte{128, 128, 128, 128, 128, 128, 128, 128, 128, 1}}, {-1<<62 - 1, []byte{129, 128, 128, 128, 128, 128, 128, 128, 128, 1}},
		{api.MaxInt, []byte{254, 255, 255, 255, 255, 255, 255, 255, 255, 1}}, {api.MinInt, []byte{255, 255, 255, 255, 255, 255, 255, 255, 255, 1}},
	} {
		if b := Put(x.n); !slices.Equal(b, x.want) {
			t.Errorf("Put(%d) = %v, want %v", x.n, b, x.want)
		}
		wantGet(t, x.want, 0, x.n, len(x.want))
	}
}

func TestP8_1PutByteMore(t *testing.T) {
	for k := 1; k <= 9; k++ {
		half := 1 << (7*k - 1)
		for n, want := range map[int]int{half - 1: k, half: k + 1, -half: k, -half - 1: k + 1} {
			if b := Put(n); len(b) != want {
				t.Errorf("Put(%d) = %v, want %d bytes", n, b, want)
			}
		}
	}
}

func TestP8_1Put(t *testing.T) {
	for _, n := range numbers() {
		if b, want := Put(n), reckoned(n); !slices.Equal(b, want) {
			t.Errorf("Put(%d) = %v, want %v", n, b, want)
		}
	}
}

func TestP8_1GetAmongOthers(t *testing.T) {
	for _, n := range edges() {
		own := reckoned(n)
		for _, ahead := range beyond() {
			for _, behind := range beyond() {
				wantGet(t, slices.Concat(ahead, own, behind), len(ahead), n, len(ahead)+len(own))
			}
		}
	}
}

func TestP8_1GetWrongPlaces(t *testing.T) {
	rows := beyond()
	for _, n := range edges() {
		rows = append(rows, reckoned(n))
	}
	for _, b := range rows {
		for _, at := range wrongPlaces(len(b)) {
			wantNoGet(t, b, at, api.ErrWireAt)
		}
		wantNoGet(t, b, len(b), api.ErrWireShort)
	}
	wantNoGet(t, []byte{}, 0, api.ErrWireShort)
	wantNoGet(t, []byte{}, 1, api.ErrWireAt)
	// Spare room is none of the bytes.
	wantNoGet(t, []byte{7, 7, 7}[:1], 1, api.ErrWireShort)
	wantNoGet(t, []byte{7, 7, 7}[:1], 2, api.ErrWireAt)
	wantNoGet(t, []byte{128, 7, 7}[:1], 0, api.ErrWireShort)
}

func TestP8_1GetShort(t *testing.T) {
	for count := 1; count <= 9; count++ {
		for _, x := range []byte{128, 129, 200, 254, 255} {
			b := bytes.Repeat([]byte{x}, count)
			wantNoGetAnywhere(t, b, api.ErrWireShort)
			b[count-1] = 128
			wantNoGetAnywhere(t, b, api.ErrWireShort)
		}
	}
	for _, n := range edges() {
		own := reckoned(n)
		for cut := range own {
			wantNoGetAnywhere(t, own[:cut], api.ErrWireShort)
		}
	}
}

func TestP8_1GetTenthByte(t *testing.T) {
	for _, x := range []byte{128, 129, 255} {
		for _, behind := range beyond() {
			nine := bytes.Repeat([]byte{x}, 9)
			for _, tenth := range []byte{0, 2, 3, 126, 127, 128, 129, 254, 255} {
				wantNoGetAnywhere(t, slices.Concat(nine, []byte{tenth}, behind), api.ErrWireLong)
			}
			own := slices.Concat(nine, []byte{1})
			wantGet(t, slices.Concat(own, behind), 0, reckonedNumber(own), 10)
			// Where one of nine ends the number a tenth byte is none of its own.
			wantGet(t, slices.Concat(nine[:8], []byte{1, 200}, behind), 0, reckonedNumber(slices.Concat(nine[:8], []byte{1})), 9)
		}
	}
}

func TestP8_1GetLastByteNought(t *testing.T) {
	for count := 2; count <= 10; count++ {
		for _, x := range []byte{128, 129, 255} {
			for _, behind := range beyond() {
				b := bytes.Repeat([]byte{x}, count)
				b[count-1] = 0
				wantNoGetAnywhere(t, slices.Concat(b, behind), api.ErrWireLong)
			}
		}
	}
	for _, behind := range beyond() {
		wantGet(t, slices.Concat([]byte{0}, behind), 0, 0, 1)
	}
}

// wantAsReckoned holds Get, at all places and beyond, to its words.
func wantAsReckoned(t *testing.T, b []byte) {
	t.Helper()
	for at := -1; at <= len(b)+1; at++ {
		n, place, err := Get(b, at)
		wantN, wantPlace, wantErr := reckonedGet(b, at)
		if n != wantN || place != wantPlace || err != wantErr {
			t.Errorf("Get(%v, %d) = %d, %d, %d, want %d, %d, %d", b, at, n, place, err, wantN, wantPlace, wantErr)
		}
	}
}

func TestP8_1GetOfAnyBytes(t *testing.T) {
	wantAsReckoned(t, nil)
	for x := range 256 {
		wantAsReckoned(t, []byte{byte(x)})
		for y := range 256 {
			wantAsReckoned(t, []byte{byte(x), byte(y)})
		}
	}
	next := chance(81)
	for i := range 20000 {
		wantAsReckoned(t, someBytes(next, i%24))
	}
}

// rows are lists of numbers: none, one, and many, of each size.
func rows() [][]int {
	list := [][]int{nil, {}, {0}, {-1}, {api.MinInt}, {api.MaxInt}, {0, 0}, {5, -3, 300}, edges()}
	for _, length := range []int{62, 63, 64, 65, 200, 8191, 8192, 20000} {
		list = append(list, numbers()[:length])
	}
	next := chance(82)
	for length := range 100 {
		l := make([]int, length)
		for i := range l {
			l[i] = int(next()) >> (next() % 64)
		}
		list = append(list, l)
	}
	return list
}

func TestP8_2RowExamples(t *testing.T) {
	for _, x := range []struct {
		l    []int
		want []byte
	}{
		{nil, []byte{0}}, {[]int{}, []byte{0}}, {[]int{0}, []byte{2, 0}}, {[]int{-1}, []byte{2, 1}}, {[]int{300, -1}, []byte{4, 216, 4, 1}}, {[]int{5, -3, 300}, []byte{6, 10, 5, 216, 4}},
		{make([]int, 63), append([]byte{126}, make([]byte, 63)...)}, {make([]int, 64), append([]byte{128, 1}, make([]byte, 64)...)},
	} {
		if b := Row(x.l); !slices.Equal(b, x.want) {
			t.Errorf("Row(%v) = %v, want %v", x.l, b, x.want)
		}
		wantRow(t, x.want, 0, len(x.l), x.l, len(x.want))
	}
}

func TestP8_2Rows(t *testing.T) {
	for _, l := range rows() {
		b := Row(l)
		if !slices.Equal(b, reckonedRow(l)) {
			t.Errorf("Row(%v) = %v", l, b)
		}
		for _, ahead := range beyond() {
			for _, behind := range [][]byte{nil, {0}, {127}, {128}, {255, 255}} {
				all := slices.Concat(ahead, b, behind)
				wantRow(t, all, len(ahead), len(l), l, len(ahead)+len(b))
			}
		}
	}
}

func TestP8_2GetRowMost(t *testing.T) {
	for _, length := range []int{0, 1, 2, 3, 63, 64, 65, 200} {
		l := edges()
		for len(l) < length {
			l = append(l, l...)
		}
		l = l[:length]
		b := reckonedRow(l)
		for _, most := range []int{length, length + 1, 1 << 32, api.MaxInt - 1, api.MaxInt} {
			wantRow(t, b, 0, most, l, len(b))
		}
		for _, most := range []int{length - 1, -1, -length - 1, -1 << 32, api.MinInt, api.MinInt + 1} {
			wantNoRow(t, b, 0, most, api.ErrWireMany)
		}
	}
	wantRow(t, []byte{0}, 0, 0, nil, 1)
	wantNoRow(t, []byte{0}, 0, -1, api.ErrWireMany)
	wantNoRow(t, []byte{0}, 0, api.MinInt, api.ErrWireMany)
	wantNoRow(t, []byte{2, 0}, 0, 0, api.ErrWireMany)
}

func TestP8_2GetRowCountBelowNought(t *testing.T) {
	for _, count := range []int{-1, -2, -64, -65, -1 << 32, api.MinInt, api.MinInt + 1} {
		for _, most := range []int{api.MinInt, api.MinInt + 1, count, -1, 0, 1, 9, api.MaxInt} {
			for _, behind := range beyond() {
				wantNoRow(t, slices.Concat(reckoned(count), behind), 0, most, api.ErrWireMany)
			}
		}
	}
}

func TestP8_2GetRowCountTooGreat(t *testing.T) {
	for _, count := range []int{4, 1 << 31, 1 << 40, 1 << 62, api.MaxInt - 1, api.MaxInt} {
		b := slices.Concat(reckoned(count), []byte{10, 5, 6})
		// That there are too many is told ahead of what is wrong with them; without such a bound the bytes end too early.
		wantNoRow(t, b, 0, count-1, api.ErrWireMany)
		wantNoRow(t, b, 0, 3, api.ErrWireMany)
		wantNoRow(t, b, 0, count, api.ErrWireShort)
		wantNoRow(t, b, 0, api.MaxInt, api.ErrWireShort)
	}
	wantNoRow(t, []byte{4, 128, 0, 0}, 0, 1, api.ErrWireMany)
	wantNoRow(t, []byte{4}, 0, 1, api.ErrWireMany)
}

func TestP8_2GetRowErrorOfCount(t *testing.T) {
	for _, most := range []int{api.MinInt, -1, 0, 1, 9, api.MaxInt} {
		wantNoRow(t, nil, 0, most, api.ErrWireShort)
		wantNoRow(t, []byte{2, 5}, 2, most, api.ErrWireShort)
		for count := 1; count <= 9; count++ {
			wantNoRow(t, bytes.Repeat([]byte{129}, count), 0, most, api.ErrWireShort)
			wantNoRow(t, append(bytes.Repeat([]byte{129}, count), 0, 2, 2), 0, most, api.ErrWireLong)
		}
		for _, tenth := range []byte{0, 2, 127, 128, 129, 255} {
			wantNoRow(t, append(bytes.Repeat([]byte{128}, 9), tenth, 2, 2), 0, most, api.ErrWireLong)
		}
		for _, b := range beyond() {
			for _, at := range wrongPlaces(len(b)) {
				wantNoRow(t, b, at, most, api.ErrWireAt)
			}
		}
	}
}

func TestP8_2GetRowErrorOfNumber(t *testing.T) {
	long := [][]byte{{128, 0}, {255, 128, 0}, append(bytes.Repeat([]byte{255}, 9), 2), bytes.Repeat([]byte{128}, 10), append(bytes.Repeat([]byte{128}, 9), 0)}
	for _, length := range []int{1, 2, 3, 5, 70} {
		for wrong := range length {
			for _, own := range long {
				b := reckoned(length)
				for i := range length {
					if i == wrong {
						b = append(b, own...)
					} else {
						b = append(b, reckoned(300*i-7)...)
					}
				}
				wantNoRow(t, b, 0, length, api.ErrWireLong)
				// The first one that has an error tells it: whatever comes behind, or is missing.
				wantNoRow(t, append(b, 128, 0), 0, length, api.ErrWireLong)
				wantNoRow(t, slices.Concat([]byte{255}, b), 1, api.MaxInt, api.ErrWireLong)
			}
		}
	}
	wantNoRow(t, []byte{6, 128, 0, 128}, 0, 3, api.ErrWireLong)
	wantNoRow(t, []byte{6, 1, 128, 0}, 0, 3, api.ErrWireLong)
	wantNoRow(t, []byte{6, 1, 1, 128}, 0, 3, api.ErrWireShort)
	wantRow(t, []byte{6, 1, 1, 1, 128, 0}, 0, 3, []int{-1, -1, -1}, 4)
}

func TestP8_2GetRowCut(t *testing.T) {
	for _, l := range [][]int{nil, {0}, {5, -3, 300}, {api.MinInt, api.MaxInt}, edges()} {
		b := reckonedRow(l)
		for cut := range b {
			wantNoRow(t, b[:cut], 0, len(l), api.ErrWireShort)
			wantNoRow(t, slices.Concat([]byte{9, 200}, b[:cut]), 2, api.MaxInt, api.ErrWireShort)
		}
	}
}

func TestP8_2GetRowWrongPlaces(t *testing.T) {
	for _, l := range rows()[:9] {
		b := reckonedRow(l)
		for _, at := range wrongPlaces(len(b)) {
			for _, most := range []int{api.MinInt, -1, 0, len(l), api.MaxInt} {
				wantNoRow(t, b, at, most, api.ErrWireAt)
			}
		}
		wantNoRow(t, b, len(b), len(l), api.ErrWireShort)
	}
}

func TestP8_2GetRowOfAnyBytes(t *testing.T) {
	next := chance(83)
	for i := range 20000 {
		b := someBytes(next, i%30)
		if len(b) > 0 && i%3 > 0 {
			b[0] = byte(next()>>30) % 16
		}
		for at := -1; at <= len(b)+1; at++ {
			for _, most := range []int{-1, 0, 1, 3, 7, api.MaxInt} {
				l, place, err := GetRow(b, at, most)
				wantL, wantPlace, wantErr := reckonedGetRow(b, at, most)
				if !slices.Equal(l, wantL) || place != wantPlace || err != wantErr {
					t.Errorf("GetRow(%v, %d, %d) = %v, %d, %d, want %v, %d, %d", b, at, most, l, place, err, wantL, wantPlace, wantErr)
				}
			}
		}
	}
}

func TestP8_3WhatIsPutIsGot(t *testing.T) {
	for _, n := range numbers() {
		b := Put(n)
		wantGet(t, b, 0, n, len(b))
		wantGet(t, slices.Concat([]byte{255, 128}, b, []byte{255, 0}), 2, n, len(b)+2)
	}
	for _, l := range rows() {
		b := Row(l)
		wantRow(t, b, 0, len(l), l, len(b))
	}
}

// wantPutAgain holds what is got of bytes, at each place of them, to be put in just those bytes.
func wantPutAgain(t *testing.T, b []byte) {
	t.Helper()
	for at := range b {
		if n, behind, err := Get(b, at); err == api.OK && !slices.Equal(Put(n), b[at:behind]) {
			t.Errorf("Get(%v, %d) = %d, %d, which is put as %v", b, at, n, behind, Put(n))
		}
		if l, behind, err := GetRow(b, at, api.MaxInt); err == api.OK && !slices.Equal(Row(l), b[at:behind]) {
			t.Errorf("GetRow(%v, %d) = %v, %d, which is put as %v", b, at, l, behind, Row(l))
		}
	}
}

func TestP8_3WhatIsGotIsPut(t *testing.T) {
	bounds := []byte{0, 1, 2, 126, 127, 128, 129, 254, 255}
	for x := range 256 {
		for y := range 256 {
			for _, z := range bounds {
				wantPutAgain(t, []byte{byte(x), byte(y), z})
			}
		}
	}
	next := chance(84)
	for i := range 50000 {
		wantPutAgain(t, someBytes(next, i%24))
	}
	for _, tenth := range bounds {
		for _, x := range bounds {
			wantPutAgain(t, append(bytes.Repeat([]byte{x | 128}, 9), tenth))
		}
	}
}

func TestP8_3NoneBeginsAnother(t *testing.T) {
	list := numbers()
	slices.Sort(list)
	list = slices.Compact(list)
	var all [][]byte
	for _, n := range list {
		all = append(all, Put(n))
	}
	// In order, bytes that begin others would stand right ahead of one of them.
	slices.SortFunc(all, bytes.Compare)
	for i := 1; i < len(all); i++ {
		if bytes.HasPrefix(all[i], all[i-1]) {
			t.Errorf("%v begin %v", all[i-1], all[i])
		}
	}
}

func TestBytesAreLeftAsTheyWere(t *testing.T) {
	next := chance(85)
	for i := range 2000 {
		room := append(Row([]int{1, 300, -1, i}), someBytes(next, 30)...)
		was := slices.Clone(room)
		for _, cut := range []int{0, 1, 4, 7, len(room)} {
			for at := -1; at <= cut+1; at++ {
				Get(room[:cut], at)
				GetRow(room[:cut], at, 9)
			}
		}
		if !slices.Equal(room, was) {
			t.Fatalf("%v became %v", was, room)
		}
	}
}

func TestNumbersAreLeftAsTheyWere(t *testing.T) {
	room := edges()
	was := slices.Clone(room)
	for cut := range room {
		Row(room[:cut])
	}
	if !slices.Equal(room, was) {
		t.Errorf("%v became %v", was, room)
	}
}

func TestAnswersAreNewMemory(t *testing.T) {
	for _, n := range edges() {
		b := Put(n)
		clear(b[:cap(b)])
		if again := Put(n); !slices.Equal(again, reckoned(n)) {
			t.Errorf("Put(%d) = %v behind one that was changed", n, again)
		}
	}
	l := []int{5, -3, 300}
	b := Row(l)
	clear(b[:cap(b)])
	b = Row(l)
	got, _, _ := GetRow(b, 0, 3)
	clear(got[:cap(got)])
	if !slices.Equal(l, []int{5, -3, 300}) || !slices.Equal(b, []byte{6, 10, 5, 216, 4}) {
		t.Errorf("%v and %v share what was answered", l, b)
	}
	wantRow(t, b, 0, 3, l, 5)
	// What was answered stays, whatever becomes of what was asked.
	got, _, _ = GetRow(b, 0, 3)
	clear(b)
	if !slices.Equal(got, l) {
		t.Errorf("%v hang on bytes that were changed", got)
	}
}

func TestP1AllArgumentsEnd(t *testing.T) {
	places := []int{api.MinInt, api.MinInt + 1, -1 << 32, -1, 0, 1, 2, 9, 10, 11, 1 << 32, api.MaxInt - 1, api.MaxInt}
	all := append(beyond(), []byte{}, reckoned(api.MaxInt), append(reckoned(api.MaxInt), 0, 1, 2), reckoned(api.MinInt), bytes.Repeat([]byte{128}, 4096), make([]byte, 4096))
	for _, b := range all {
		for _, at := range places {
			if n, place, err := Get(b, at); err != api.OK && (n != 0 || place != 0) {
				t.Errorf("Get(%v, %d) = %d, %d, %d", b, at, n, place, err)
			}
			for _, most := range places {
				if l, place, err := GetRow(b, at, most); err != api.OK && (l != nil || place != 0) {
					t.Errorf("GetRow(%v, %d, %d) = %v, %d, %d", b, at, most, l, place, err)
				}
			}
		}
	}
}
