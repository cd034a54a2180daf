package crc

import (
	"bytes"
	"slices"
	"testing"

	"newel/api"
)

// edgeSums are the ends of a sum, and those beside which its highest bit turns.
func edgeSums() []int {
	return []int{0, 1, 32767, 32768, 65535}
}

// wideSums are numbers of more than 16 bits, each with its lowest 16.
func wideSums() map[int]int {
	return map[int]int{
		-1: 65535, -2: 65534, -32768: 32768, -32769: 32767, -65535: 1, -65536: 0, -65537: 65535,
		65536: 0, 65537: 1, 98303: 32767, 98304: 32768, 131071: 65535, 131072: 0,
		1<<31 - 1: 65535, 1 << 31: 0, 1<<32 + 10673: 10673, -1<<32 + 10673: 10673, 1 << 48: 0, 1<<62 + 4129: 4129,
		api.MinInt: 0, api.MinInt + 1: 1, api.MaxInt - 1: 65534, api.MaxInt: 65535,
	}
}

// chance makes a row of numbers without an order, the same one from each beginning.
func chance(seed uint64) func() uint64 {
	return func() uint64 {
		seed = seed*6364136223846793005 + 1442695040888963407
		return seed ^ seed>>29
	}
}

// someBytes makes bytes without an order.
func someBytes(next func() uint64, length int) []byte {
	b := make([]byte, length)
	for i := range b {
		b[i] = byte(next() >> 20)
	}
	return b
}

// texts are bytes to be summed: none, one of some values, rows of one value, and many without an order.
func texts() [][]byte {
	list := [][]byte{nil, {}, {0}, {1}, {128}, {255}, {255, 255}, {255, 255, 0, 0}, []byte("123456789"), allValues(), make([]byte, 4096), bytes.Repeat([]byte{255}, 4096)}
	next := chance(9)
	for length := range 70 {
		list = append(list, someBytes(next, length))
	}
	for _, length := range []int{255, 256, 257, 4096, 70000} {
		list = append(list, someBytes(next, length))
	}
	return list
}

// allValues is each value of a byte, once.
func allValues() []byte {
	b := make([]byte, 256)
	for i := range b {
		b[i] = byte(i)
	}
	return b
}

// reckoned is a sum of 16 bits behind bytes, bit by bit, by the chapter's words.
func reckoned(sum int, b []byte) int {
	for _, x := range b {
		for bit := 7; bit >= 0; bit-- {
			apart := sum / 32768
			sum = sum * 2 % 65536
			if apart != int(x)>>bit&1 {
				sum ^= 1<<12 | 1<<5 | 1
			}
		}
	}
	return sum
}

// reckonedSeal is Seal by the words of P9.2.
func reckonedSeal(b []byte) []byte {
	sum := reckoned(65535, b)
	return slices.Concat(b, []byte{byte(sum / 256), byte(sum % 256)})
}

// reckonedOpen is Open by the words of P9.2.
func reckonedOpen(b []byte) ([]byte, api.Errno) {
	if len(b) < 2 {
		return nil, api.ErrCrcShort
	}
	ahead := b[:len(b)-2]
	if !slices.Equal(reckonedSeal(ahead), b) {
		return nil, api.ErrCrcSum
	}
	return ahead, api.OK
}

// wantMore holds More to a sum.
func wantMore(t *testing.T, sum int, b []byte, want int) {
	t.Helper()
	if got := More(sum, b); got != want {
		t.Errorf("More(%d, %v) = %d, want %d", sum, b, got, want)
	}
}

// wantOpen holds Open to the bytes ahead of the sum.
func wantOpen(t *testing.T, b, want []byte) {
	t.Helper()
	if got, err := Open(b); !slices.Equal(got, want) || err != api.OK {
		t.Errorf("Open(%v) = %v, %d, want %v", b, got, err, want)
	}
}

// wantNoOpen holds Open to an error, with no bytes.
func wantNoOpen(t *testing.T, b []byte, want api.Errno) {
	t.Helper()
	if got, err := Open(b); len(got) != 0 || err != want {
		t.Errorf("Open(%v) = %v, %d, want none, %d", b, got, err, want)
	}
}

func TestP9_1MoreExamples(t *testing.T) {
	for _, x := range []struct {
		sum  int
		b    []byte
		want int
	}{
		{0, []byte{0}, 0}, {0, []byte{1}, 4129}, {0, []byte{127}, 36728}, {0, []byte{128}, 37256}, {0, []byte{255}, 7920},
		{1, []byte{0}, 256}, {1, []byte{1}, 4385}, {1, []byte{128}, 37000}, {1, []byte{255}, 8176},
		{32767, []byte{0}, 28792}, {32767, []byte{1}, 24665}, {32767, []byte{128}, 57840}, {32767, []byte{255}, 28296},
		{32768, []byte{0}, 37256}, {32768, []byte{1}, 33193}, {32768, []byte{128}, 0}, {32768, []byte{255}, 36728},
		{65535, []byte{0}, 57840}, {65535, []byte{1}, 61905}, {65535, []byte{128}, 28792}, {65535, []byte{255}, 65280},
		{0, []byte("123456789"), 12739}, {1, []byte("123456789"), 30224}, {32767, []byte("123456789"), 38403}, {32768, []byte("123456789"), 36465}, {65535, []byte("123456789"), 10673},
		{0, allValues(), 32341}, {1, allValues(), 33541}, {32767, allValues(), 8201}, {32768, allValues(), 25057}, {65535, allValues(), 16317},
		{65535, make([]byte, 4096), 61407}, {65535, bytes.Repeat([]byte{255}, 4096), 4065},
	} {
		wantMore(t, x.sum, x.b, x.want)
	}
}

func TestP9_1MoreOverNoBytes(t *testing.T) {
	for sum := range 65536 {
		wantMore(t, sum, nil, sum)
		wantMore(t, sum, []byte{}, sum)
	}
	for sum, low := range wideSums() {
		wantMore(t, sum, nil, low)
		wantMore(t, sum, []byte{}, low)
	}
}

func TestP9_1MoreOverOneByte(t *testing.T) {
	for _, sum := range edgeSums() {
		for _, x := range allValues() {
			b := []byte{x}
			wantMore(t, sum, b, reckoned(sum, b))
		}
	}
}

// From each sum: with this, and with sums that go on as over parts, More is right over all bytes.
func TestP9_1MoreOverOneByteFromAllSums(t *testing.T) {
	b := make([]byte, 1)
	for sum := range 65536 {
		for x := range 256 {
			b[0] = byte(x)
			if got, want := More(sum, b), reckoned(sum, b); got != want {
				t.Fatalf("More(%d, %v) = %d, want %d", sum, b, got, want)
			}
		}
	}
}

func TestP9_1MoreOverManyBytes(t *testing.T) {
	next := chance(91)
	for _, b := range texts() {
		for _, sum := range append(edgeSums(), int(next()%65536), int(next()%65536), int(next()%65536)) {
			wantMore(t, sum, b, reckoned(sum, b))
		}
	}
	for i := range 20000 {
		sum, b := int(next()>>16%65536), someBytes(next, i%40)
		wantMore(t, sum, b, reckoned(sum, b))
	}
}

func TestP9_1MoreFromWideSums(t *testing.T) {
	for sum, low := range wideSums() {
		for _, b := range texts() {
			wantMore(t, sum, b, reckoned(low, b))
		}
	}
	next := chance(92)
	for range 20000 {
		sum, b := int(next())>>(next()>>20%64), someBytes(next, 5)
		wantMore(t, sum, b, reckoned((sum%65536+65536)%65536, b))
	}
}

func TestP9_1MoreGoesOnAsOverParts(t *testing.T) {
	next := chance(93)
	for i := range 300 {
		b, sum := someBytes(next, i), int(next())
		whole := More(sum, b)
		for cut := range len(b) + 1 {
			wantMore(t, More(sum, b[:cut]), b[cut:], whole)
		}
		each := sum
		for at := range b {
			each = More(each, b[at:at+1])
		}
		wantMore(t, each, nil, whole)
	}
}

func TestP9_1SumExamples(t *testing.T) {
	for _, x := range []struct {
		b    []byte
		want int
	}{
		{nil, 65535}, {[]byte{}, 65535},
		{[]byte{49, 50, 51, 52, 53, 54, 55, 56, 57}, 10673},
		{[]byte{0}, 57840}, {[]byte{1}, 61905}, {[]byte{65}, 47381}, {[]byte{128}, 28792}, {[]byte{255}, 65280},
		{[]byte{0, 0}, 7439}, {[]byte{255, 255}, 0}, {[]byte("newel"), 9858}, {allValues(), 16317}, {make([]byte, 4096), 61407},
	} {
		if got := Sum(x.b); got != x.want {
			t.Errorf("Sum(%v) = %d, want %d", x.b, got, x.want)
		}
	}
}

func TestP9_1Sum(t *testing.T) {
	list := texts()
	for _, x := range allValues() {
		list = append(list, []byte{x})
	}
	for _, b := range list {
		if got, want := Sum(b), reckoned(65535, b); got != want || got != More(65535, b) {
			t.Errorf("Sum(%v) = %d, want %d", b, got, want)
		}
	}
}

func TestP9_2SealExamples(t *testing.T) {
	for _, x := range []struct{ b, want []byte }{
		{nil, []byte{255, 255}}, {[]byte{}, []byte{255, 255}}, {[]byte{0}, []byte{0, 225, 240}}, {[]byte{255}, []byte{255, 255, 0}}, {[]byte{255, 255}, []byte{255, 255, 0, 0}},
		{[]byte("123456789"), append([]byte("123456789"), 41, 177)}, {[]byte("newel"), append([]byte("newel"), 38, 130)}, {allValues(), append(allValues(), 63, 189)},
	} {
		if got := Seal(x.b); !slices.Equal(got, x.want) {
			t.Errorf("Seal(%v) = %v, want %v", x.b, got, x.want)
		}
		wantOpen(t, x.want, x.b)
	}
}

func TestP9_2Seal(t *testing.T) {
	for _, b := range texts() {
		got := Seal(b)
		if len(got) != len(b)+2 {
			t.Fatalf("Seal(%v) has %d bytes, want %d", b, len(got), len(b)+2)
		}
		sum := Sum(b)
		if !slices.Equal(got[:len(b)], b) || int(got[len(b)]) != sum/256 || int(got[len(b)+1]) != sum%256 {
			t.Errorf("Seal(%v) = %v, of the sum %d", b, got, sum)
		}
		if !slices.Equal(got, reckonedSeal(b)) {
			t.Errorf("Seal(%v) = %v, want %v", b, got, reckonedSeal(b))
		}
	}
}

func TestP9_2OpenShort(t *testing.T) {
	wantNoOpen(t, nil, api.ErrCrcShort)
	wantNoOpen(t, []byte{}, api.ErrCrcShort)
	for _, x := range allValues() {
		wantNoOpen(t, []byte{x}, api.ErrCrcShort)
	}
}

func TestP9_2OpenOfTwoBytes(t *testing.T) {
	for x := range 256 {
		for y := range 256 {
			b := []byte{byte(x), byte(y)}
			if x == 255 && y == 255 {
				wantOpen(t, b, nil)
			} else {
				wantNoOpen(t, b, api.ErrCrcSum)
			}
		}
	}
}

func TestP9_2OpenSumInOtherOrder(t *testing.T) {
	differ := 0
	for _, b := range texts() {
		sealed := reckonedSeal(b)
		higher, lower := len(b), len(b)+1
		if sealed[higher] == sealed[lower] {
			continue
		}
		differ++
		sealed[higher], sealed[lower] = sealed[lower], sealed[higher]
		wantNoOpen(t, sealed, api.ErrCrcSum)
	}
	if differ < len(texts())/2 {
		t.Errorf("only %d sums have halves that differ", differ)
	}
}

func TestP9_2OpenByteLess(t *testing.T) {
	wantNoOpen(t, append([]byte("123456789"), 41), api.ErrCrcSum)
	wantNoOpen(t, append([]byte("23456789"), 41, 177), api.ErrCrcSum)
	wantNoOpen(t, append([]byte("12346789"), 41, 177), api.ErrCrcSum)
	// Here what is left has a right sum by itself.
	wantOpen(t, []byte{255, 255, 0}, []byte{255})
	wantOpen(t, []byte{255, 255}, nil)
	wrong := 0
	for _, b := range texts() {
		if len(b) > 300 {
			continue
		}
		sealed := reckonedSeal(b)
		for at := range sealed {
			wrong += wantAsReckoned(t, slices.Delete(slices.Clone(sealed), at, at+1))
		}
	}
	if wrong < 1000 {
		t.Errorf("only %d have another sum", wrong)
	}
}

func TestP9_2OpenByteMore(t *testing.T) {
	for _, b := range texts() {
		if len(b) > 300 {
			continue
		}
		sealed := reckonedSeal(b)
		wrong := 0
		for _, x := range allValues() {
			wrong += wantAsReckoned(t, slices.Concat(sealed, []byte{x}))
			wantAsReckoned(t, slices.Concat([]byte{x}, sealed))
		}
		if wrong < 255 { // the sum behind one byte more ends in just one way
			t.Errorf("behind %v only %d bytes make another sum", sealed, wrong)
		}
		for at := range sealed {
			wantAsReckoned(t, slices.Insert(slices.Clone(sealed), at, byte(at)))
		}
	}
}

// wantAsReckoned holds Open to its words, and is 1, if a sum is not right.
func wantAsReckoned(t *testing.T, b []byte) int {
	t.Helper()
	want, err := reckonedOpen(b)
	if err == api.OK {
		wantOpen(t, b, want)
		return 0
	}
	wantNoOpen(t, b, err)
	if err == api.ErrCrcSum {
		return 1
	}
	return 0
}

func TestP9_2OpenOfAnyBytes(t *testing.T) {
	for x := range 256 {
		for y := range 256 {
			wantAsReckoned(t, []byte{byte(x), byte(y), byte(x + y)})
			wantAsReckoned(t, []byte{byte(x), byte(reckoned(65535, []byte{byte(x)}) >> 8), byte(y)})
		}
	}
	next := chance(94)
	for i := range 20000 {
		wantAsReckoned(t, someBytes(next, i%24))
	}
}

func TestP9_3WhatIsSealedIsOpened(t *testing.T) {
	for _, b := range texts() {
		wantOpen(t, Seal(b), b)
		wantOpen(t, Seal(Seal(b)), Seal(b))
	}
	next := chance(95)
	for i := range 20000 {
		b := someBytes(next, i%50)
		wantOpen(t, Seal(b), b)
	}
}

func TestP9_3ByteTurned(t *testing.T) {
	for _, b := range texts() {
		if len(b) > 300 {
			continue
		}
		sealed := Seal(b)
		for at := range sealed {
			for turn := 1; turn < 256; turn++ {
				sealed[at] ^= byte(turn)
				wantNoOpen(t, sealed, api.ErrCrcSum)
				sealed[at] ^= byte(turn)
			}
		}
		wantOpen(t, sealed, b)
	}
}

func TestP9_3TwoBytesTurned(t *testing.T) {
	for _, b := range [][]byte{nil, {0}, {255}, []byte("newel"), []byte("123456789")} {
		sealed := Seal(b)
		for at := range len(sealed) - 1 {
			for turn := 1; turn < 65536; turn++ {
				turnTwo(sealed, at, turn)
				wantNoOpen(t, sealed, api.ErrCrcSum)
				turnTwo(sealed, at, turn)
			}
		}
		wantOpen(t, sealed, b)
	}
}

func TestP9_3TwoBytesTurnedOfMany(t *testing.T) {
	next := chance(96)
	for _, b := range texts() {
		if len(b) > 5000 {
			continue
		}
		sealed := Seal(b)
		for at := range len(sealed) - 1 {
			turn := 1 + int(next()>>16%65535)
			turnTwo(sealed, at, turn)
			wantNoOpen(t, sealed, api.ErrCrcSum)
			turnTwo(sealed, at, turn)
			// Two that differ, each in the other's place, are both turned.
			if sealed[at] != sealed[at+1] {
				sealed[at], sealed[at+1] = sealed[at+1], sealed[at]
				wantNoOpen(t, sealed, api.ErrCrcSum)
				sealed[at], sealed[at+1] = sealed[at+1], sealed[at]
			}
		}
		wantOpen(t, sealed, b)
	}
}

// turnTwo turns bits of two bytes that stand side by side; done twice it leaves them as they were.
func turnTwo(b []byte, at, turn int) {
	b[at] ^= byte(turn / 256)
	b[at+1] ^= byte(turn % 256)
}

func TestBytesAreLeftAsTheyWere(t *testing.T) {
	next := chance(97)
	for i := range 1000 {
		text := someBytes(next, i%60)
		room := slices.Concat(Seal(text), someBytes(next, 9))
		was := slices.Clone(room)
		for cut := range len(room) + 1 {
			More(i, room[:cut])
			Sum(room[:cut])
			Seal(room[:cut])
			Open(room[:cut])
		}
		if !slices.Equal(room, was) {
			t.Fatalf("%v became %v", was, room)
		}
	}
}

func TestSpareRoomIsNotRead(t *testing.T) {
	next := chance(98)
	for i := range 1000 {
		b := someBytes(next, i%60)
		sealed := reckonedSeal(b)
		for _, spare := range [][]byte{nil, {0}, {0, 0}, {255, 255, 255}, sealed[len(b):], someBytes(next, 40)} {
			roomy := slices.Concat(b, spare)[:len(b)]
			if got := Seal(roomy); !slices.Equal(got, sealed) {
				t.Errorf("Seal(%v) = %v, with %v behind it", roomy, got, spare)
			}
			wantMore(t, 65535, roomy, Sum(b))
			wantOpen(t, slices.Concat(sealed, spare)[:len(sealed)], b)
		}
	}
	// What lacks its last byte is not whole because that byte lies in spare room.
	sealed := reckonedSeal([]byte("123456789"))
	wantNoOpen(t, sealed[:len(sealed)-1], api.ErrCrcSum)
	wantNoOpen(t, []byte{255, 255}[:1], api.ErrCrcShort)
	wantNoOpen(t, []byte{255, 255}[:0], api.ErrCrcShort)
}

// wantOwnMemory holds an answer to bytes that neither change with those that were handed in, nor change them.
func wantOwnMemory(t *testing.T, name string, room, answer []byte) {
	t.Helper()
	was, told := slices.Clone(room), slices.Clone(answer)
	for i := range answer[:cap(answer)] {
		answer[:cap(answer)][i] ^= 255
	}
	if !slices.Equal(room, was) {
		t.Errorf("%s: %v became %v with what was answered", name, was, room)
	}
	copy(answer, told)
	for i := range room {
		room[i] ^= 255
	}
	if !slices.Equal(answer, told) {
		t.Errorf("%s: %v became %v with what was handed in", name, told, answer)
	}
	copy(room, was)
}

func TestAnswersAreNewMemory(t *testing.T) {
	for _, b := range texts() {
		for _, spare := range []int{0, 1, 2, 3, 100} {
			room := slices.Concat(b, make([]byte, spare))
			wantOwnMemory(t, "Seal", room, Seal(room[:len(b)]))
			room = slices.Concat(reckonedSeal(b), make([]byte, spare))
			opened, _ := Open(room[:len(b)+2])
			wantOwnMemory(t, "Open", room, opened)
		}
		wantOwnMemory(t, "Seal, again", Seal(b), Seal(b))
		one, _ := Open(reckonedSeal(b))
		other, _ := Open(reckonedSeal(b))
		wantOwnMemory(t, "Open, again", one, other)
	}
}

func TestP1AllArgumentsEnd(t *testing.T) {
	all := append(texts(), make([]byte, 1<<20), bytes.Repeat([]byte{255}, 1<<20))
	for _, b := range all {
		for _, sum := range []int{api.MinInt, -1, 0, 1, 65536, api.MaxInt} {
			if got := More(sum, b); got < 0 || got > 65535 {
				t.Errorf("More(%d, %v) = %d", sum, b, got)
			}
		}
		if got, err := Open(b); err != api.OK && len(got) != 0 {
			t.Errorf("Open(%v) = %v, %d", b, got, err)
		}
		wantOpen(t, Seal(b), b)
	}
}
