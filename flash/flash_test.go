package flash

import (
	"bytes"
	"fmt"
	"slices"
	"testing"

	"newel/api"
)

// plain is a record that may be, in which all numbers differ, that of its bytes too.
func plain() api.Record {
	return api.Record{Gen: 300, Clock: -3, Mode: 1, Config: []byte{7, 8, 200, 9}}
}

// plainBytes is its bytes, but for the sum, written out.
func plainBytes() []byte {
	return []byte{6, 216, 4, 5, 2, 8, 7, 8, 200, 9}
}

// chance makes a row of numbers without an order, the same one from each beginning.
func chance(seed uint64) func(below int) int {
	return func(below int) int {
		seed = seed*6364136223846793005 + 1442695040888963407
		return int((seed ^ seed>>29) >> 16 % uint64(below))
	}
}

// someBytes makes bytes without an order.
func someBytes(next func(below int) int, length int) []byte {
	b := make([]byte, length)
	for i := range b {
		b[i] = byte(next(256))
	}
	return b
}

// configs are bytes of configurations, of all lengths that the chapter names, and about them.
func configs() [][]byte {
	next := chance(120)
	list := [][]byte{nil, {}, {0}, {255}, {6, 2, 0, 6, 0}, laid(plain()), make([]byte, 63), bytes.Repeat([]byte{255}, 64)}
	for _, length := range []int{1, 2, 62, 63, 64, 65, 127, 128, 129, 4095, 4096} {
		list = append(list, someBytes(next, length))
	}
	return list
}

// gens are generations that may be, at the ends, and where their bytes become more.
func gens() []int {
	return []int{1, 2, 63, 64, 300, 8191, 8192, 1 << 30, 1 << 32, api.MaxGen - 1, api.MaxGen}
}

// wrongGens are those that may not be.
func wrongGens() []int {
	return []int{0, -1, -2, -300, -api.MaxGen, api.MaxGen + 1, api.MaxGen + 2, 1 << 41, 1 << 62, api.MinInt, api.MinInt + 1, api.MaxInt - 1, api.MaxInt}
}

// clocks are numbers of all kinds.
func clocks() []int {
	return []int{0, 1, -1, 2, -2, 63, 64, -64, -65, api.MinTime, api.MaxTime, 1 << 32, -1 << 40, api.MinInt, api.MinInt + 1, api.MaxInt - 1, api.MaxInt}
}

// wrongModes are modes that may not be.
func wrongModes() []int {
	return []int{-1, 6, 7, -2, 64, 256, 257, 1 << 32, 1<<32 + 1, -1 << 32, api.MinInt, api.MinInt + 1, api.MaxInt - 1, api.MaxInt}
}

// wrongRecords are records that may not be, each for one thing, or for more.
func wrongRecords() []api.Record {
	list := []api.Record{{}, {Gen: -1, Mode: -1}, {Gen: api.MaxInt, Clock: api.MaxInt, Mode: api.MaxInt, Config: make([]byte, 4097)}}
	for _, gen := range wrongGens() {
		r := plain()
		r.Gen = gen
		list = append(list, r)
	}
	for _, mode := range wrongModes() {
		r := plain()
		r.Mode = mode
		list = append(list, r)
	}
	for _, length := range []int{4097, 4098, 8192, 1 << 16, 1<<16 + 1} {
		r := plain()
		r.Config = make([]byte, length)
		list = append(list, r)
	}
	return list
}

// samples are some records that may be: the ends of each field, and lengths of all kinds.
func samples() []api.Record {
	list := []api.Record{{Gen: 1}, plain()}
	for _, gen := range gens() {
		list = append(list, api.Record{Gen: gen, Clock: 7, Mode: 2, Config: []byte{1, 2}})
	}
	for _, clock := range clocks() {
		list = append(list, api.Record{Gen: 3, Clock: clock, Mode: 4, Config: []byte{128}})
	}
	for mode := range 6 {
		list = append(list, api.Record{Gen: 70, Clock: -70, Mode: mode})
	}
	for i, config := range configs() {
		list = append(list, api.Record{Gen: 5 + i, Clock: 1 - i, Mode: i % 6, Config: config})
	}
	return append(list, api.Record{Gen: api.MaxGen, Clock: api.MinInt, Mode: 5, Config: bytes.Repeat([]byte{255}, 4096)})
}

// shortSamples are those of these of which the bytes are not many.
func shortSamples() []api.Record {
	return slices.DeleteFunc(samples(), func(r api.Record) bool { return len(r.Config) > 200 })
}

// anyRecord is a record that may be, of a generation.
func anyRecord(next func(below int) int, gen int) api.Record {
	clock := clocks()[next(len(clocks()))] + next(5) - 2
	return api.Record{Gen: gen, Clock: clock, Mode: next(6), Config: someBytes(next, next(12)*next(12))}
}

// number is a number's bytes, by the words of chapter 8.
func number(n int) []byte {
	code := 2 * uint64(n)
	if n < 0 {
		code = 2*uint64(-1-n) + 1
	}
	b := []byte{byte(code % 128)}
	for code /= 128; code > 0; code /= 128 {
		b[len(b)-1] += 128
		b = append(b, byte(code%128))
	}
	return b
}

// row is the bytes of a row, by the words of chapter 8.
func row(list ...int) []byte {
	b := number(len(list))
	for _, n := range list {
		b = append(b, number(n)...)
	}
	return b
}

// sealed is bytes with their sum behind them, bit by bit, by the words of chapter 9.
func sealed(b []byte) []byte {
	sum := 65535
	for _, x := range b {
		for bit := 7; bit >= 0; bit-- {
			apart := sum / 32768
			sum = sum * 2 % 65536
			if apart != int(x)>>bit&1 {
				sum ^= 4129
			}
		}
	}
	return slices.Concat(b, []byte{byte(sum / 256), byte(sum % 256)})
}

// headOf is what stands ahead of a record's configuration.
func headOf(r api.Record) []byte {
	return slices.Concat(row(r.Gen, r.Clock, r.Mode), number(len(r.Config)))
}

// laid is a record's bytes by the words of the chapter, whether it may be or not.
func laid(r api.Record) []byte {
	return sealed(slices.Concat(headOf(r), r.Config))
}

// reckonedGet is the number that begins bytes, and those behind it, by the words of P8.1.
func reckonedGet(b []byte) (int, []byte, api.Errno) {
	code := uint64(0)
	for i, x := range b {
		if i == 9 && x > 1 {
			return 0, nil, api.ErrWireLong
		}
		code += uint64(x%128) << (7 * i)
		if x >= 128 {
			continue
		}
		if i > 0 && x == 0 {
			return 0, nil, api.ErrWireLong
		}
		if code%2 == 1 {
			return -1 - int(code/2), b[i+1:], api.OK
		}
		return int(code / 2), b[i+1:], api.OK
	}
	return 0, nil, api.ErrWireShort
}

// reckonedGetRow is the row that begins bytes, of 3 numbers at most, and those behind it, by the words of P8.2.
func reckonedGetRow(b []byte) ([]int, []byte, api.Errno) {
	count, b, err := reckonedGet(b)
	if err != api.OK {
		return nil, nil, err
	}
	if count < 0 || count > 3 {
		return nil, nil, api.ErrWireMany
	}
	var list []int
	for len(list) < count {
		var n int
		if n, b, err = reckonedGet(b); err != api.OK {
			return nil, nil, err
		}
		list = append(list, n)
	}
	return list, b, api.OK
}

// reckonedRead is Read by the words of P12.2.
func reckonedRead(b []byte) (api.Record, api.Errno) {
	list, rest, err := reckonedGetRow(b)
	if err != api.OK {
		return api.Record{}, err
	}
	if len(list) != 3 || list[0] < 1 || list[0] > 1<<40 || list[2] < 0 || list[2] > 5 {
		return api.Record{}, api.ErrFlashForm
	}
	size, rest, err := reckonedGet(rest)
	switch {
	case err != api.OK:
		return api.Record{}, err
	case size < 0 || size > 4096:
		return api.Record{}, api.ErrFlashForm
	case len(rest) < size+2:
		return api.Record{}, api.ErrFlashShort
	case len(rest) > size+2:
		return api.Record{}, api.ErrFlashTail
	case !bytes.Equal(sealed(b[:len(b)-2]), b):
		return api.Record{}, api.ErrCrcSum
	}
	return api.Record{Gen: list[0], Clock: list[1], Mode: list[2], Config: rest[:size]}, api.OK
}

// like is whether two records are the same, without Same.
func like(a, b api.Record) bool {
	return a.Gen == b.Gen && a.Clock == b.Clock && a.Mode == b.Mode && string(a.Config) == string(b.Config)
}

// isZero is whether a record is the zero one.
func isZero(r api.Record) bool {
	return like(r, api.Record{})
}

// copyOf is a record in memory of its own.
func copyOf(r api.Record) api.Record {
	r.Config = slices.Clone(r.Config)
	return r
}

// copyOfFlash is a flash in memory of its own.
func copyOfFlash(f api.Flash) api.Flash {
	return api.Flash{A: slices.Clone(f.A), B: slices.Clone(f.B)}
}

// sameFlash is whether the bytes of two flashes are the same.
func sameFlash(f, g api.Flash) bool {
	return bytes.Equal(f.A, g.A) && bytes.Equal(f.B, g.B)
}

// wantCode holds Code to bytes.
func wantCode(t *testing.T, r api.Record, want []byte) {
	t.Helper()
	if b, err := Code(r); !bytes.Equal(b, want) || err != api.OK {
		t.Errorf("Code(%v) = %v, %d, want %v", r, b, err, want)
	}
}

// wantNoCode holds Code to ErrFlashForm, with no bytes.
func wantNoCode(t *testing.T, r api.Record) {
	t.Helper()
	if b, err := Code(r); len(b) != 0 || err != api.ErrFlashForm {
		t.Errorf("Code(%v) = %v, %d, want none, %d", r, b, err, api.ErrFlashForm)
	}
}

// wantRead holds Read to a record.
func wantRead(t *testing.T, b []byte, want api.Record) {
	t.Helper()
	if r, err := Read(b); !like(r, want) || err != api.OK {
		t.Errorf("Read(%v) = %v, %d, want %v", b, r, err, want)
	}
}

// wantNoRead holds Read to an error, with the zero record.
func wantNoRead(t *testing.T, b []byte, want api.Errno) {
	t.Helper()
	if r, err := Read(b); !isZero(r) || err != want {
		t.Errorf("Read(%v) = %v, %d, want none, %d", b, r, err, want)
	}
}

// wantAsReckoned holds Read to its words, and is whether there was a record.
func wantAsReckoned(t *testing.T, b []byte) bool {
	t.Helper()
	r, err := reckonedRead(b)
	if err != api.OK {
		wantNoRead(t, b, err)
		return false
	}
	wantRead(t, b, r)
	return true
}

// wantRecover holds Recover to a record, of the second slot or the first one.
func wantRecover(t *testing.T, f api.Flash, want api.Record, second bool) {
	t.Helper()
	if r, other, err := Recover(f); !like(r, want) || other != second || err != api.OK {
		t.Errorf("Recover(%v) = %v, %t, %d, want %v, %t", f, r, other, err, want, second)
	}
}

// wantNoRecover holds Recover to ErrFlashNone, with the zero record, and not the second slot's.
func wantNoRecover(t *testing.T, f api.Flash) {
	t.Helper()
	if r, other, err := Recover(f); !isZero(r) || other || err != api.ErrFlashNone {
		t.Errorf("Recover(%v) = %v, %t, %d, want none, %d", f, r, other, err, api.ErrFlashNone)
	}
}

// wantWrite holds Write to a flash, and to whether all was written.
func wantWrite(t *testing.T, f api.Flash, r api.Record, cut int, want api.Flash, whole bool) {
	t.Helper()
	if g, all, err := Write(f, r, cut); !sameFlash(g, want) || all != whole || err != api.OK {
		t.Errorf("Write(%v, %v, %d) = %v, %t, %d, want %v, %t", f, r, cut, g, all, err, want, whole)
	}
}

// wantNoWrite holds Write to an error, with the zero flash, and not all written.
func wantNoWrite(t *testing.T, f api.Flash, r api.Record, cut int, want api.Errno) {
	t.Helper()
	if g, all, err := Write(f, r, cut); len(g.A) != 0 || len(g.B) != 0 || all || err != want {
		t.Errorf("Write(%v, %v, %d) = %v, %t, %d, want none, %d", f, r, cut, g, all, err, want)
	}
}

func TestP12_1Example(t *testing.T) {
	r := api.Record{Gen: 1, Clock: 0, Mode: 3}
	b := sealed([]byte{6, 2, 0, 6, 0})
	if len(b) != 7 {
		t.Fatalf("%v is not of 7 bytes", b)
	}
	wantCode(t, r, b)
	wantRead(t, b, r)
}

func TestP12_1PlainBytes(t *testing.T) {
	wantCode(t, plain(), sealed(plainBytes()))
	wantRead(t, sealed(plainBytes()), plain())
	wantCode(t, api.Record{Gen: api.MaxGen, Clock: api.MinInt, Mode: 5}, sealed([]byte{
		6,
		128, 128, 128, 128, 128, 64,
		255, 255, 255, 255, 255, 255, 255, 255, 255, 1,
		10,
		0,
	}))
	long := api.Record{Gen: 1, Clock: api.MaxInt, Mode: 2, Config: bytes.Repeat([]byte{9}, 4096)}
	wantCode(t, long, sealed(append([]byte{
		6,
		2,
		254, 255, 255, 255, 255, 255, 255, 255, 255, 1,
		4,
		128, 64,
	}, long.Config...)))
}

func TestP12_1Bytes(t *testing.T) {
	for _, gen := range []int{1, api.MaxGen} {
		for _, clock := range clocks() {
			for mode := range 6 {
				for _, length := range []int{0, 1, 63, 64} {
					r := api.Record{Gen: gen, Clock: clock, Mode: mode, Config: bytes.Repeat([]byte{6}, length)}
					wantCode(t, r, laid(r))
				}
			}
		}
	}
	for _, r := range samples() {
		wantCode(t, r, laid(r))
	}
}

func TestP12_1EachLength(t *testing.T) {
	next := chance(121)
	all := someBytes(next, 4097)
	for length := range 4098 {
		if length > 300 && length < 4090 && length%97 != 0 {
			continue
		}
		r := api.Record{Gen: 9, Config: all[:length]}
		if length > 4096 {
			wantNoCode(t, r)
		} else {
			wantCode(t, r, laid(r))
		}
	}
}

func TestP12_1RoomIsNotWritten(t *testing.T) {
	r := plain()
	r.Config = append(r.Config, 50, 51, 52)[:4]
	wantCode(t, r, laid(plain()))
	r.Config = make([]byte, 4096, 9000)
	wantCode(t, r, laid(r))
	r.Config = r.Config[:0]
	wantCode(t, r, laid(api.Record{Gen: 300, Clock: -3, Mode: 1}))
}

func TestP12_1WrongRecords(t *testing.T) {
	for _, r := range wrongRecords() {
		wantNoCode(t, r)
		for _, clock := range clocks() {
			r.Clock = clock
			wantNoCode(t, r)
		}
	}
	for _, r := range samples() {
		for _, gen := range wrongGens() {
			wantNoCode(t, api.Record{Gen: gen, Clock: r.Clock, Mode: r.Mode, Config: r.Config})
		}
		for _, mode := range wrongModes() {
			wantNoCode(t, api.Record{Gen: r.Gen, Clock: r.Clock, Mode: mode, Config: r.Config})
		}
		wantNoCode(t, api.Record{Gen: r.Gen, Clock: r.Clock, Mode: r.Mode, Config: make([]byte, 4097)})
	}
}

// allRecords are records that may be, and that may not.
func allRecords() []api.Record {
	return append(samples(), wrongRecords()...)
}

func TestP12_1SameOfTheSame(t *testing.T) {
	for _, r := range allRecords() {
		if !Same(r, r) || !Same(r, copyOf(r)) || !Same(copyOf(r), r) {
			t.Errorf("%v is not the same as it is", r)
		}
		roomy := copyOf(r)
		roomy.Config = append(roomy.Config, 1, 2, 3)[:len(r.Config)]
		if !Same(r, roomy) || !Same(roomy, r) {
			t.Errorf("%v is not the same with spare room", r)
		}
		bare, empty := r, r
		bare.Config, empty.Config = nil, []byte{}
		if !Same(bare, empty) || !Same(empty, bare) || !Same(bare, bare) || !Same(empty, empty) {
			t.Errorf("%v: nil and empty are not the same", r)
		}
	}
}

func TestP12_1SameOfOthers(t *testing.T) {
	differ := func(a, b api.Record) {
		t.Helper()
		if Same(a, b) || Same(b, a) {
			t.Errorf("%v and %v are the same", a, b)
		}
	}
	for _, r := range allRecords() {
		for _, step := range []int{1, -1, 2, 64, 1 << 8, 1 << 16, 1 << 32, 1 << 62, api.MinInt} {
			gen, clock, mode := r, r, r
			gen.Gen += step
			clock.Clock += step
			mode.Mode += step
			differ(r, gen)
			differ(r, clock)
			differ(r, mode)
			swapped := r
			swapped.Gen, swapped.Clock = r.Gen+step, r.Clock-step
			differ(r, swapped)
		}
		for i := range r.Config {
			if i > 4 && i < len(r.Config)-4 && i%499 != 0 {
				continue
			}
			turned := copyOf(r)
			turned.Config[i] ^= 1 << (i % 8)
			differ(r, turned)
			less := r
			less.Config = slices.Delete(slices.Clone(r.Config), i, i+1)
			differ(r, less)
		}
		for _, x := range []byte{0, 1, 255} {
			more, ahead := r, r
			more.Config = slices.Concat(r.Config, []byte{x})
			ahead.Config = slices.Concat([]byte{x}, r.Config)
			differ(r, more)
			differ(r, ahead)
		}
	}
	differ(api.Record{Gen: 1}, api.Record{Clock: 1})
	differ(api.Record{Gen: 1}, api.Record{Mode: 1})
	differ(api.Record{Clock: 1}, api.Record{Mode: 1})
	differ(api.Record{Gen: 1, Config: []byte{1, 2}}, api.Record{Gen: 1, Config: []byte{2, 1}})
}

func TestP12_1SameOfAllPairs(t *testing.T) {
	list := allRecords()
	for _, a := range list {
		for _, b := range list {
			if Same(a, b) != like(a, b) {
				t.Errorf("Same(%v, %v) = %t", a, b, Same(a, b))
			}
		}
	}
}

func TestP12_2WhatIsCoded(t *testing.T) {
	for _, r := range samples() {
		b, _ := Code(r)
		wantRead(t, b, r)
		wantRead(t, laid(r), r)
	}
}

func TestP12_2Cut(t *testing.T) {
	for _, r := range samples() {
		b := laid(r)
		head := len(headOf(r))
		for cut := range b {
			want := api.ErrFlashShort
			if cut < head { // the number of bytes is not whole
				want = api.ErrWireShort
			}
			wantNoRead(t, b[:cut], want)
		}
		wantRead(t, b, r)
	}
}

// What was cut is sealed again: its sum may stand where a number should.
func TestP12_2CutAndSealed(t *testing.T) {
	for _, r := range shortSamples() {
		b := laid(r)
		b = b[:len(b)-2]
		for cut := range b {
			if wantAsReckoned(t, sealed(b[:cut])) {
				t.Errorf("%v was read", sealed(b[:cut]))
			}
			if cut >= len(headOf(r)) {
				wantNoRead(t, sealed(b[:cut]), api.ErrFlashShort)
			}
			wantAsReckoned(t, sealed(b[cut+1:]))
			wantAsReckoned(t, laid(r)[cut+1:])
		}
		wantRead(t, sealed(b), r)
	}
}

func TestP12_2BytesBehind(t *testing.T) {
	for _, r := range samples() {
		b := laid(r)
		for x := range 256 {
			wantNoRead(t, slices.Concat(b, []byte{byte(x)}), api.ErrFlashTail)
		}
		wantNoRead(t, slices.Concat(b, b), api.ErrFlashTail)
		wantNoRead(t, slices.Concat(b, laid(plain())), api.ErrFlashTail)
		wantNoRead(t, slices.Concat(b, make([]byte, 5000)), api.ErrFlashTail)
		wantNoRead(t, sealed(b), api.ErrFlashTail)
		long := slices.Concat(headOf(r), r.Config, []byte{0})
		wantNoRead(t, sealed(long), api.ErrFlashTail)
		for cut := range min(len(b), 60) {
			wantNoRead(t, slices.Concat(b, b[:cut+1]), api.ErrFlashTail)
		}
	}
}

func TestP12_2ByteTurned(t *testing.T) {
	for _, r := range samples() {
		b := laid(r)
		for i := range b {
			if len(b) > 1000 && i > 40 && i < len(b)-40 && i%41 != 0 {
				continue // of many bytes some
			}
			for turn := 1; turn < 256; turn++ {
				if len(b) > 40 && turn&(turn-1) != 0 && turn != 255 {
					continue // of many bytes each bit alone, and all
				}
				b[i] ^= byte(turn)
				if wantAsReckoned(t, b) {
					t.Errorf("%v was read, of which the byte %d was turned", b, i)
				}
				if i >= len(headOf(r)) {
					wantNoRead(t, b, api.ErrCrcSum)
				}
				b[i] ^= byte(turn)
			}
		}
		wantRead(t, b, r)
	}
}

func TestP12_2Sums(t *testing.T) {
	for _, r := range []api.Record{{Gen: 1}, plain()} {
		b := laid(r)
		high, low := b[len(b)-2], b[len(b)-1]
		for x := range 256 {
			for y := range 256 {
				b[len(b)-2], b[len(b)-1] = byte(x), byte(y)
				if byte(x) == high && byte(y) == low {
					wantRead(t, b, r)
				} else {
					wantNoRead(t, b, api.ErrCrcSum)
				}
			}
		}
	}
	for _, r := range samples() {
		b := laid(r)
		b[len(b)-2], b[len(b)-1] = b[len(b)-1], b[len(b)-2]
		if b[len(b)-2] != b[len(b)-1] {
			wantNoRead(t, b, api.ErrCrcSum) // the lower half first
		}
		wantNoRead(t, slices.Concat(headOf(r), sealed(r.Config)), api.ErrCrcSum)           // the configuration's alone
		wantNoRead(t, slices.Concat(headOf(r), r.Config, []byte{255, 255}), api.ErrCrcSum) // that of no bytes
	}
}

func TestP12_2FewBytes(t *testing.T) {
	wantNoRead(t, nil, api.ErrWireShort)
	wantNoRead(t, []byte{}, api.ErrWireShort)
	for x := range 256 {
		one := []byte{byte(x)}
		wantAsReckoned(t, one)
		wantAsReckoned(t, sealed(one))
		for y := range 256 {
			two := []byte{byte(x), byte(y)}
			if wantAsReckoned(t, two) || wantAsReckoned(t, sealed(two)) {
				t.Errorf("%v was read", two)
			}
		}
	}
	wantNoRead(t, sealed(nil), api.ErrWireShort) // 255, 255
}

// tooLong is numbers' bytes that are too great, or more than they need, some of them in place of a number's own.
func tooLong(own []byte) [][]byte {
	nine := bytes.Repeat([]byte{128}, 9)
	return [][]byte{
		longer(own), {128, 0}, {134, 0}, {134, 128, 0}, {255, 255, 0},
		append(slices.Clone(nine), 0), append(slices.Clone(nine), 2), append(slices.Clone(nine), 127), append(slices.Clone(nine), 128, 0), append(slices.Clone(nine), 129, 1),
		bytes.Repeat([]byte{255}, 10), bytes.Repeat([]byte{255}, 300), append(slices.Clone(nine[:8]), 128, 130),
	}
}

// longer is a number's bytes, and one more than they need.
func longer(b []byte) []byte {
	b = slices.Clone(b)
	b[len(b)-1] += 128
	return append(b, 0)
}

func TestP12_2NumberTooLong(t *testing.T) {
	for _, r := range shortSamples() {
		parts := [][]byte{number(3), number(r.Gen), number(r.Clock), number(r.Mode), number(len(r.Config))}
		for i, own := range parts {
			for _, long := range tooLong(own) {
				p := slices.Clone(parts)
				p[i] = long
				b := slices.Concat(p...)
				wantNoRead(t, sealed(slices.Concat(b, r.Config)), api.ErrWireLong)
				wantNoRead(t, slices.Concat(b, r.Config, []byte{0, 0}), api.ErrWireLong)
				wantNoRead(t, b, api.ErrWireLong) // with nothing behind
			}
		}
	}
}

// Each number of the row, and that behind it, is cut where it stands, or is not there.
func TestP12_2NumberCut(t *testing.T) {
	for _, r := range samples() {
		parts := [][]byte{number(3), number(r.Gen), number(r.Clock), number(r.Mode), number(len(r.Config))}
		for i, own := range parts {
			ahead := slices.Concat(parts[:i]...)
			wantNoRead(t, ahead, api.ErrWireShort)
			for cut := range own {
				wantNoRead(t, slices.Concat(ahead, own[:cut]), api.ErrWireShort)
			}
			for length := 1; length < 10; length++ {
				wantNoRead(t, slices.Concat(ahead, bytes.Repeat([]byte{200}, length)), api.ErrWireShort)
			}
			wantNoRead(t, slices.Concat(ahead, bytes.Repeat([]byte{128}, 9), []byte{129}), api.ErrWireLong)
		}
	}
}

func TestP12_2RowLengths(t *testing.T) {
	list := []int{300, -3, 1}
	behind := slices.Concat(number(3), []byte{7, 8, 9})
	for count := range 3 {
		b := slices.Concat(row(list[:count]...), behind)
		wantNoRead(t, sealed(b), api.ErrFlashForm)
		wantNoRead(t, row(list[:count]...), api.ErrFlashForm) // with nothing behind
		wantNoRead(t, sealed(row(list[:count]...)), api.ErrFlashForm)
	}
	wantRead(t, sealed(slices.Concat(row(list...), behind)), api.Record{Gen: 300, Clock: -3, Mode: 1, Config: []byte{7, 8, 9}})
	for count := 4; count < 200; count++ {
		b := number(count)
		for i := range count {
			b = append(b, number(list[i%3])...)
		}
		wantNoRead(t, sealed(slices.Concat(b, behind)), api.ErrWireMany)
		wantNoRead(t, number(count), api.ErrWireMany)
	}
	for _, count := range []int{-1, -2, -3, -4, 4, 5, 63, 64, 112, 113, 8192, 1 << 32, 1<<32 + 3, 1 << 62, api.MinInt, api.MinInt + 3, api.MaxInt} {
		wantNoRead(t, sealed(slices.Concat(number(count), row(list...)[1:], behind)), api.ErrWireMany)
		wantNoRead(t, number(count), api.ErrWireMany)
	}
}

func TestP12_2WrongRecords(t *testing.T) {
	for _, r := range wrongRecords() {
		wantNoRead(t, laid(r), api.ErrFlashForm)
		if len(r.Config) <= 4096 {
			wantNoRead(t, row(r.Gen, r.Clock, r.Mode), api.ErrFlashForm) // with nothing behind
		}
	}
	for _, clock := range clocks() {
		for _, gen := range wrongGens() {
			wantNoRead(t, laid(api.Record{Gen: gen, Clock: clock}), api.ErrFlashForm)
		}
		for _, mode := range wrongModes() {
			wantNoRead(t, laid(api.Record{Gen: 1, Clock: clock, Mode: mode}), api.ErrFlashForm)
		}
	}
}

// How many bytes a slot says that it has, and how many it has.
func TestP12_2Sizes(t *testing.T) {
	ahead := row(300, -3, 1)
	next := chance(122)
	all := someBytes(next, 5000)
	for _, size := range []int{0, 1, 2, 3, 63, 64, 65, 4095, 4096} {
		for has := max(0, size-70); has < size+70; has++ {
			b := sealed(slices.Concat(ahead, number(size), all[:has]))
			switch {
			case has < size:
				wantNoRead(t, b, api.ErrFlashShort)
			case has > size:
				wantNoRead(t, b, api.ErrFlashTail)
			default:
				wantRead(t, b, api.Record{Gen: 300, Clock: -3, Mode: 1, Config: all[:size]})
			}
			b = b[:len(b)-1]
			switch {
			case has-1 < size:
				wantNoRead(t, b, api.ErrFlashShort)
			case has-1 > size:
				wantNoRead(t, b, api.ErrFlashTail)
			default:
				wantNoRead(t, b, api.ErrCrcSum)
			}
		}
		wantNoRead(t, slices.Concat(ahead, number(size)), api.ErrFlashShort)
	}
	for _, size := range []int{-1, -2, -3, -64, -4096, 4097, 4098, 4099, 8192, 1 << 16, 1<<16 + 1, 1 << 32, 1<<32 + 3, -1 << 32, api.MinInt, api.MinInt + 1, api.MaxInt - 2, api.MaxInt - 1, api.MaxInt} {
		for _, has := range []int{0, 1, 2, 3, 4, 4094, 4095, 4096, 4097, 4098, 4099, 4100, 5000} {
			b := slices.Concat(ahead, number(size), all[:has])
			wantNoRead(t, b, api.ErrFlashForm)
			wantNoRead(t, sealed(b), api.ErrFlashForm)
		}
	}
}

// pieces is a record's bytes that can be spoiled, piece by piece.
type pieces struct {
	count   []byte
	numbers [][]byte
	size    []byte
	config  []byte
	turn    byte   // what is turned of the last byte of the sum
	cut     int    // how many bytes of the sum are not there
	tail    []byte // behind the sum
}

// piecesOf is the bytes of a record, in pieces.
func piecesOf(r api.Record) *pieces {
	return &pieces{
		count:   number(3),
		numbers: [][]byte{number(r.Gen), number(r.Clock), number(r.Mode)},
		size:    number(len(r.Config)),
		config:  slices.Clone(r.Config),
	}
}

// whole is the bytes of pieces.
func (p *pieces) whole() []byte {
	b := sealed(slices.Concat(p.count, slices.Concat(p.numbers...), p.size, p.config))
	b[len(b)-1] ^= p.turn
	return append(b[:len(b)-p.cut], p.tail...)
}

// endAtCount leaves nothing of all but a beginning of how many numbers there are.
func (p *pieces) endAtCount(beginning ...byte) {
	p.count, p.numbers = beginning, nil
	p.endAtSize()
}

// endAtNumber leaves nothing from a number of the row on, from 0 on, but a beginning of it.
func (p *pieces) endAtNumber(i int, beginning ...byte) {
	p.numbers = append(p.numbers[:i:i], beginning)
	p.endAtSize()
}

// endAtSize leaves nothing behind the row but a beginning of how many bytes there are.
func (p *pieces) endAtSize(beginning ...byte) {
	p.size, p.config, p.cut, p.tail = beginning, nil, 2, nil
}

// fault is something that is wrong with bytes in pieces, at which place of the order in which it is told, and what it tells. It spoils them, if it can be.
type fault struct {
	name  string
	place int
	err   api.Errno
	spoil func(p *pieces) bool
}

// always is a fault's spoiling that can be in all bytes.
func always(spoil func(p *pieces)) func(p *pieces) bool {
	return func(p *pieces) bool {
		spoil(p)
		return true
	}
}

// countFaults is what may be wrong with how many numbers there are.
func countFaults() []fault {
	list := []fault{
		{"no bytes", 1, api.ErrWireShort, always(func(p *pieces) { p.endAtCount() })},
		{"cut in the count", 1, api.ErrWireShort, always(func(p *pieces) { p.endAtCount(134) })},
	}
	for i, long := range tooLong(number(3)) {
		list = append(list, fault{fmt.Sprintf("count too long, %d", i), 1, api.ErrWireLong, always(func(p *pieces) { p.count = long })})
	}
	for _, count := range []int{-1, 4, api.MinInt, api.MaxInt} {
		list = append(list, fault{fmt.Sprintf("count %d", count), 2, api.ErrWireMany, always(func(p *pieces) { p.count = number(count) })})
	}
	return list
}

// numberFaults is what may be wrong with the bytes of a number of the row, from 0 on.
func numberFaults(i int) []fault {
	there := func(spoil func(p *pieces)) func(p *pieces) bool {
		return func(p *pieces) bool {
			if i >= len(p.numbers) {
				return false
			}
			spoil(p)
			return true
		}
	}
	list := []fault{
		{fmt.Sprintf("cut ahead of number %d", i), 3 + i, api.ErrWireShort, there(func(p *pieces) { p.endAtNumber(i) })},
		{fmt.Sprintf("cut in number %d", i), 3 + i, api.ErrWireShort, there(func(p *pieces) { p.endAtNumber(i, 140) })},
	}
	for j := range tooLong(number(1)) {
		list = append(list, fault{fmt.Sprintf("number %d too long, %d", i, j), 3 + i, api.ErrWireLong, there(func(p *pieces) { p.numbers[i] = tooLong(p.numbers[i])[j] })})
	}
	return list
}

// formFaults is what may be wrong with the numbers of a row that could be read.
func formFaults() []fault {
	var list []fault
	for count := range 3 {
		list = append(list, fault{fmt.Sprintf("a row of %d", count), 6, api.ErrFlashForm, always(func(p *pieces) { p.numbers, p.count = p.numbers[:count], number(count) })})
	}
	for _, gen := range []int{0, -1, api.MaxGen + 1, api.MinInt, api.MaxInt} {
		list = append(list, fault{fmt.Sprintf("Gen %d", gen), 6, api.ErrFlashForm, always(func(p *pieces) { p.numbers[0] = number(gen) })})
	}
	for _, mode := range []int{-1, 6, api.MinInt, api.MaxInt} {
		list = append(list, fault{fmt.Sprintf("Mode %d", mode), 6, api.ErrFlashForm, always(func(p *pieces) { p.numbers[2] = number(mode) })})
	}
	return list
}

// sizeFaults is what may be wrong with how many bytes there are.
func sizeFaults() []fault {
	list := []fault{
		{"no size", 7, api.ErrWireShort, always(func(p *pieces) { p.endAtSize() })},
		{"cut in the size", 7, api.ErrWireShort, always(func(p *pieces) { p.endAtSize(134) })},
	}
	for i := range tooLong(number(1)) {
		list = append(list, fault{fmt.Sprintf("size too long, %d", i), 7, api.ErrWireLong, always(func(p *pieces) { p.size = tooLong(p.size)[i] })})
	}
	for _, size := range []int{-1, 4097, api.MinInt, api.MaxInt} {
		list = append(list, fault{fmt.Sprintf("size %d", size), 8, api.ErrFlashForm, always(func(p *pieces) { p.size = number(size) })})
	}
	return list
}

// endFaults is what may be wrong with the bytes behind that number.
func endFaults() []fault {
	return []fault{
		{"a byte less", 9, api.ErrFlashShort, always(func(p *pieces) { p.config = p.config[1:] })},
		{"three bytes less", 9, api.ErrFlashShort, always(func(p *pieces) { p.config = p.config[3:] })},
		{"half of the sum", 9, api.ErrFlashShort, always(func(p *pieces) { p.cut = 1 })},
		{"no sum", 9, api.ErrFlashShort, always(func(p *pieces) { p.cut = 2 })},
		{"nothing behind the size", 9, api.ErrFlashShort, always(func(p *pieces) { p.config, p.cut = nil, 2 })},
		{"a byte more", 9, api.ErrFlashTail, always(func(p *pieces) { p.config = append(p.config, 7) })},
		{"5000 bytes more", 9, api.ErrFlashTail, always(func(p *pieces) { p.config = append(p.config, make([]byte, 5000)...) })},
		{"a byte behind the sum", 9, api.ErrFlashTail, always(func(p *pieces) { p.tail = []byte{0} })},
		{"a record behind the sum", 9, api.ErrFlashTail, always(func(p *pieces) { p.tail = laid(plain()) })},
		{"sum", 10, api.ErrCrcSum, always(func(p *pieces) { p.turn = 1 })},
	}
}

// faults is all that may be wrong with bytes, in the order in which it is told.
func faults() []fault {
	return slices.Concat(countFaults(), numberFaults(0), numberFaults(1), numberFaults(2), formFaults(), sizeFaults(), endFaults())
}

// spoiled is a record's bytes with faults, that are handed in in the order in which they are told, and whether all of them can be there: the last one is done first, so that those ahead of it find it there.
func spoiled(r api.Record, list ...fault) ([]byte, bool) {
	p := piecesOf(r)
	for _, f := range slices.Backward(list) {
		if !f.spoil(p) {
			return nil, false
		}
	}
	return p.whole(), true
}

// spoilable are records with bytes enough that some can be taken away.
func spoilable() []api.Record {
	return []api.Record{plain(), {Gen: api.MaxGen, Clock: api.MinInt, Mode: 5, Config: bytes.Repeat([]byte{131}, 64)}}
}

func TestP12_2OneError(t *testing.T) {
	for _, r := range spoilable() {
		b, _ := spoiled(r)
		wantRead(t, b, r)
		for _, f := range faults() {
			b, _ := spoiled(r, f)
			wantNoRead(t, b, f.err)
			wantAsReckoned(t, b)
			if t.Failed() {
				t.Fatal(f.name)
			}
		}
	}
}

func TestP12_2TwoErrors(t *testing.T) {
	list := faults()
	for _, r := range spoilable() {
		for i, first := range list {
			for _, behind := range list[i+1:] {
				if first.place == behind.place {
					continue // there can be one at a time
				}
				b, both := spoiled(r, first, behind)
				if !both {
					continue
				}
				wantNoRead(t, b, first.err)
				wantAsReckoned(t, b)
				if t.Failed() {
					t.Fatalf("%s, and %s", first.name, behind.name)
				}
			}
		}
	}
}

// Of any number of faults, too, the first one is told.
func TestP12_2ManyErrors(t *testing.T) {
	next := chance(123)
	all := faults()
	told := 0
	for range 20000 {
		var list []fault
		in := map[int]bool{}
		for range 1 + next(6) {
			if f := all[next(len(all))]; !in[f.place] {
				in[f.place] = true
				list = append(list, f)
			}
		}
		slices.SortFunc(list, func(a, b fault) int { return a.place - b.place })
		if b, could := spoiled(plain(), list...); could {
			wantNoRead(t, b, list[0].err)
			told++
		}
	}
	if told < 10000 {
		t.Errorf("%d of the bytes had all their faults", told)
	}
}

// held is what a slot has: bytes, and the generation of their record (0: they have none).
type held struct {
	name string
	b    []byte
	r    api.Record
}

// helds are slots without a record, and with one, of some generations, of which some are the same.
func helds() []held {
	five := api.Record{Gen: 5, Clock: 50, Mode: 1, Config: []byte{1, 2, 3}}
	last := api.Record{Gen: api.MaxGen, Clock: -1, Mode: 4, Config: []byte{9}}
	wrong, lastWrong := laid(five), laid(last)
	wrong[len(wrong)-1] ^= 1
	lastWrong[1] ^= 2
	list := []held{
		{name: "none"}, {name: "empty", b: []byte{}}, {name: "a nought", b: []byte{0}}, {name: "cut behind a byte", b: laid(five)[:1]}, {name: "cut in the row", b: laid(last)[:4]},
		{name: "cut by a byte", b: laid(five)[:len(laid(five))-1]}, {name: "cut ahead of the sum", b: laid(last)[:len(laid(last))-2]},
		{name: "wrong sum", b: wrong}, {name: "turned", b: lastWrong}, {name: "a byte behind", b: append(laid(last), 0)}, {name: "two records", b: slices.Concat(laid(five), laid(five))},
		{name: "Gen 0", b: laid(api.Record{Mode: 2})}, {name: "Gen above", b: laid(api.Record{Gen: api.MaxGen + 1})}, {name: "erased to ones", b: bytes.Repeat([]byte{255}, 20)}, {name: "erased to noughts", b: make([]byte, 20)},
	}
	for _, r := range []api.Record{
		{Gen: 1}, {Gen: 4, Clock: 99, Mode: 5, Config: []byte{4, 4, 4, 4}}, five, {Gen: 5}, {Gen: 5, Clock: 51, Mode: 1, Config: []byte{1, 2, 3}}, {Gen: 6, Clock: -9, Mode: 0, Config: make([]byte, 64)},
		{Gen: api.MaxGen - 1, Mode: 3}, last, {Gen: api.MaxGen, Clock: -1, Mode: 4, Config: []byte{10}},
	} {
		list = append(list, held{name: fmt.Sprintf("Gen %d", r.Gen), b: laid(r), r: r})
	}
	return list
}

// flashOf is the flash of two slots, its latest record (Gen 0: none), and whether it is the second one's.
func flashOf(a, b held) (f api.Flash, latest api.Record, second bool) {
	f = api.Flash{A: slices.Clone(a.b), B: slices.Clone(b.b)}
	if b.r.Gen > a.r.Gen {
		return f, b.r, true
	}
	return f, a.r, false
}

func TestP12_3Slots(t *testing.T) {
	for _, a := range helds() {
		for _, b := range helds() {
			f, latest, second := flashOf(a, b)
			if latest.Gen == 0 {
				wantNoRecover(t, f)
			} else {
				wantRecover(t, f, latest, second)
			}
			if t.Failed() {
				t.Fatalf("A: %s, B: %s", a.name, b.name)
			}
		}
	}
}

func TestP12_3Generations(t *testing.T) {
	for _, one := range gens() {
		for _, other := range gens() {
			a, b := api.Record{Gen: one, Clock: 1, Mode: 1}, api.Record{Gen: other, Clock: 2, Mode: 2, Config: []byte{1}}
			f := api.Flash{A: laid(a), B: laid(b)}
			if other > one {
				wantRecover(t, f, b, true)
			} else {
				wantRecover(t, f, a, false)
			}
		}
	}
}

func TestP12_3EachSample(t *testing.T) {
	for _, r := range samples() {
		wantRecover(t, api.Flash{A: laid(r)}, r, false)
		wantRecover(t, api.Flash{B: laid(r)}, r, true)
		wantRecover(t, api.Flash{A: laid(r), B: laid(r)}, r, false)
		b := laid(r)
		for cut := 0; cut < len(b); cut += 1 + cut/50 {
			wantNoRecover(t, api.Flash{A: b[:cut]})
			wantNoRecover(t, api.Flash{B: b[:cut]})
			wantNoRecover(t, api.Flash{A: b[:cut], B: b[:cut]})
			wantRecover(t, api.Flash{A: b[:cut], B: b}, r, true)
			wantRecover(t, api.Flash{A: b, B: b[:cut]}, r, false)
		}
	}
}

// cutsOf are cuts from below 0 to beyond the last of some bytes.
func cutsOf(length int) []int {
	list := []int{api.MinInt, api.MinInt + 1, -1 << 32, -length, -2, -1}
	for cut := range length + 3 {
		if length < 100 || cut < 20 || cut > length-20 || cut%499 == 0 {
			list = append(list, cut)
		}
	}
	return append(list, 2*length+3, 4096, 10000, 1<<32, 1<<32+1, api.MaxInt-1, api.MaxInt)
}

// wantCuts holds Write, with each cut, to what is written in one slot, to the other one, and to what is the latest record then.
func wantCuts(t *testing.T, f api.Flash, r api.Record, latest api.Record, second bool) {
	t.Helper()
	b := laid(r)
	toFirst := latest.Gen == 0 || second
	for _, cut := range cutsOf(len(b)) {
		whole := cut >= len(b)
		part := b
		if !whole {
			part = b[:max(cut, 0)]
		}
		want := api.Flash{A: f.A, B: part}
		if toFirst {
			want = api.Flash{A: part, B: f.B}
		}
		wantWrite(t, f, r, cut, want, whole)
		g, _, _ := Write(f, r, cut)
		switch {
		case whole:
			wantRecover(t, g, r, !toFirst)
		case latest.Gen == 0:
			wantNoRecover(t, g)
		default:
			wantRecover(t, g, latest, second)
		}
	}
}

func TestP12_4Writes(t *testing.T) {
	written, refused := 0, 0
	for _, a := range helds() {
		for _, b := range helds() {
			f, latest, second := flashOf(a, b)
			for i, gen := range []int{1, 2, 3, 4, 5, 6, 7, 1000, api.MaxGen - 2, api.MaxGen - 1, api.MaxGen} {
				r := api.Record{Gen: gen, Clock: -i, Mode: i % 6, Config: bytes.Repeat([]byte{byte(i)}, i)}
				if gen > latest.Gen {
					wantCuts(t, f, r, latest, second)
					written++
					continue
				}
				refused++
				for _, cut := range cutsOf(len(laid(r))) {
					wantNoWrite(t, f, r, cut, api.ErrFlashGen)
				}
			}
			if t.Failed() {
				t.Fatalf("A: %s, B: %s", a.name, b.name)
			}
		}
	}
	if written < 1000 || refused < 1000 {
		t.Errorf("%d written, %d refused", written, refused)
	}
}

// To each flash each next generation may be written, the latest one's own and all below it not.
func TestP12_4Generations(t *testing.T) {
	for _, a := range helds() {
		for _, b := range helds() {
			f, latest, second := flashOf(a, b)
			if latest.Gen == 0 {
				wantCuts(t, f, api.Record{Gen: 1}, latest, second)
				continue
			}
			for _, less := range []int{0, 1, 2, latest.Gen - 1} {
				if gen := latest.Gen - less; gen >= 1 {
					wantNoWrite(t, f, api.Record{Gen: gen, Mode: 2}, 100, api.ErrFlashGen)
				}
			}
			wantNoWrite(t, f, latest, api.MaxInt, api.ErrFlashGen) // the same record again
			if latest.Gen < api.MaxGen {
				wantCuts(t, f, api.Record{Gen: latest.Gen + 1, Mode: 2}, latest, second)
				wantCuts(t, f, api.Record{Gen: api.MaxGen, Clock: api.MinInt}, latest, second)
			}
		}
	}
}

// Of a record that may not be, the form is told, whether its Gen is above the latest one's or not.
func TestP12_4WrongRecords(t *testing.T) {
	for _, a := range helds() {
		for _, b := range helds() {
			f, _, _ := flashOf(a, b)
			for _, r := range wrongRecords() {
				for _, cut := range []int{api.MinInt, -1, 0, 1, 6, 7, 10, 4096, 5000, api.MaxInt} {
					wantNoWrite(t, f, r, cut, api.ErrFlashForm)
				}
			}
		}
	}
}

func TestP12_4EachSample(t *testing.T) {
	for _, r := range samples() {
		wantCuts(t, api.Flash{}, r, api.Record{}, false)
		wantCuts(t, api.Flash{A: []byte{1, 2, 3}, B: []byte{4, 5, 6}}, r, api.Record{}, false)
		if r.Gen > 1 {
			old := api.Record{Gen: r.Gen - 1, Clock: 77, Mode: 1, Config: []byte{3, 2, 1}}
			wantCuts(t, api.Flash{A: laid(old)}, r, old, false)
			wantCuts(t, api.Flash{B: laid(old)}, r, old, true)
			wantCuts(t, api.Flash{A: laid(old), B: make([]byte, 5000)}, r, old, false)
			wantCuts(t, api.Flash{A: make([]byte, 5000), B: laid(old)}, r, old, true)
			wantCuts(t, api.Flash{A: laid(old), B: laid(old)}, r, old, false)
		}
	}
}

// The slot is erased: nothing that it had is left behind a cut.
func TestP12_4Erased(t *testing.T) {
	old, new := api.Record{Gen: 1, Config: bytes.Repeat([]byte{170}, 4000)}, api.Record{Gen: 3, Mode: 2}
	latest := api.Record{Gen: 2, Mode: 1}
	f := api.Flash{A: laid(old), B: laid(latest)}
	for cut := range 7 {
		wantWrite(t, f, new, cut, api.Flash{A: laid(new)[:cut], B: laid(latest)}, false)
	}
	wantWrite(t, f, new, -1, api.Flash{B: laid(latest)}, false)
	wantWrite(t, f, new, 7, api.Flash{A: laid(new), B: laid(latest)}, true)
	// Each slot in its turn.
	wantWrite(t, api.Flash{A: laid(new), B: laid(latest)}, api.Record{Gen: 4}, 100, api.Flash{A: laid(new), B: laid(api.Record{Gen: 4})}, true)
}

// Each single cut of the longest record.
func TestP12_5EachCut(t *testing.T) {
	next := chance(124)
	old := api.Record{Gen: 8, Clock: 5000000, Mode: 1, Config: someBytes(next, 64)}
	r := api.Record{Gen: 9, Clock: 5000001, Mode: 2, Config: someBytes(next, 4096)}
	b := laid(r)
	for cut := range len(b) + 2 {
		g, all, err := Write(api.Flash{B: laid(old)}, r, cut)
		if all != (cut >= len(b)) || err != api.OK {
			t.Fatalf("cut behind %d: %t, %d", cut, all, err)
		}
		if all {
			wantRecover(t, g, r, false)
		} else {
			wantRecover(t, g, old, true)
		}
	}
}

// Over long rows of writes, with the power cut anywhere, or not, the latest record is the last one of which all was written.
func TestP12_5LongRows(t *testing.T) {
	next := chance(125)
	list := helds()
	for range 300 {
		f, latest, second := flashOf(list[next(len(list))], list[next(len(list))])
		if latest.Gen >= api.MaxGen-1 {
			continue
		}
		for range 200 {
			r := anyRecord(next, latest.Gen+1+next(3)*next(1000))
			length := len(laid(r))
			cut := next(length+6) - 3
			if next(3) == 0 {
				cut = cutsOf(length)[next(len(cutsOf(length)))]
			}
			g, all, err := Write(f, r, cut)
			if all != (cut >= length) || err != api.OK {
				t.Fatalf("Write(%v, %v, %d) = %v, %t, %d", f, r, cut, g, all, err)
			}
			if all {
				second = latest.Gen != 0 && !second
				latest = r
			}
			f = g
			if latest.Gen == 0 {
				wantNoRecover(t, f)
			} else {
				wantRecover(t, f, latest, second)
				wantNoWrite(t, f, latest, cut, api.ErrFlashGen)
			}
			if t.Failed() {
				t.FailNow()
			}
		}
	}
}

// A write that was cut again and again, and then is not, is as one that was not cut.
func TestP12_5WrittenAgain(t *testing.T) {
	for _, a := range helds() {
		for _, b := range helds() {
			f, latest, _ := flashOf(a, b)
			if latest.Gen == api.MaxGen {
				continue
			}
			r := api.Record{Gen: latest.Gen + 1, Clock: 12, Mode: 3, Config: []byte{5, 6, 7}}
			want, _, _ := Write(f, r, 1000)
			for cut := range laid(r) {
				f, _, _ = Write(f, r, cut)
			}
			wantWrite(t, f, r, 1000, want, true)
		}
	}
}

// wantCodedAgain holds what is read of bytes to be coded in just those, and is whether there was something.
func wantCodedAgain(t *testing.T, b []byte) bool {
	t.Helper()
	if !wantAsReckoned(t, b) {
		return false
	}
	r, _ := Read(b)
	wantCode(t, r, b)
	return true
}

func TestWhatIsReadIsCoded(t *testing.T) {
	next := chance(126)
	read := 0
	for range 60000 {
		r := anyRecord(next, gens()[next(len(gens()))])
		b := laid(r)
		b = b[:len(b)-2]
		switch i, x := next(len(b)), byte(next(256)); next(7) {
		case 0:
			b[i] = x
		case 1:
			b[i] ^= 1 << (x % 8)
		case 2:
			b = slices.Insert(b, i, x)
		case 3:
			b = slices.Delete(b, i, i+1)
		case 4: // a number one more, or one less
			b[i] += 4*(x%2) - 2
		case 5: // a byte more than a number takes
			if b[i] < 128 {
				b[i] += 128
				b = slices.Insert(b, i+1, 0)
			}
		}
		if wantCodedAgain(t, sealed(b)) {
			read++
		}
	}
	if read < 10000 || read > 55000 {
		t.Errorf("%d of the bytes were read", read)
	}
}

// Bytes laid by hand: rows of numbers, a number, and bytes, of which some are a record's.
func TestWhatIsReadIsCodedByHand(t *testing.T) {
	next := chance(127)
	read := 0
	for range 60000 {
		list := []int{1 + next(3), clocks()[next(len(clocks()))], next(7)}
		if next(5) == 0 {
			list = append(list, 1)
		}
		if next(5) == 0 {
			list = list[:next(len(list)+1)]
		}
		size := next(70)
		b := slices.Concat(row(list...), number(size+next(2)*next(2)), someBytes(next, size))
		if wantCodedAgain(t, sealed(b)) {
			read++
		}
		wantCodedAgain(t, b)
	}
	if read < 10000 || read > 55000 {
		t.Errorf("%d of the bytes were read", read)
	}
	for _, r := range samples() {
		if !wantCodedAgain(t, laid(r)) {
			t.Errorf("%v was not read", r)
		}
	}
}

// roomy is bytes with spare room behind them, and all of them with that room.
func roomy(b []byte) (short, all []byte) {
	all = slices.Concat(b, []byte{201, 202, 203, 204, 205, 206, 207, 208})
	return all[:len(b)], all
}

func TestRecordsAreLeftAsTheyWere(t *testing.T) {
	old := laid(api.Record{Gen: 1})
	for _, r := range allRecords() {
		var all []byte
		r.Config, all = roomy(r.Config)
		was, kept := copyOf(r), slices.Clone(all)
		Code(r)
		Same(r, plain())
		Same(plain(), r)
		for _, cut := range []int{-1, 0, 3, 4, 5, 6, 10, 5000} {
			Write(api.Flash{}, r, cut)
			Write(api.Flash{A: old}, r, cut)
		}
		if !like(r, was) || !bytes.Equal(all, kept) {
			t.Errorf("%v became %v, %v", was, r, all)
		}
	}
}

func TestSlotsAreLeftAsTheyWere(t *testing.T) {
	for _, a := range helds() {
		for _, b := range helds() {
			var f api.Flash
			var allA, allB []byte
			f.A, allA = roomy(a.b)
			f.B, allB = roomy(b.b)
			keptA, keptB := slices.Clone(allA), slices.Clone(allB)
			Read(f.A)
			Read(f.B)
			Recover(f)
			for _, gen := range []int{0, 1, 5, 6, 1000, api.MaxGen} {
				for _, cut := range []int{-1, 0, 1, 6, 7, 10, 100} {
					Write(f, api.Record{Gen: gen, Mode: 1, Config: make([]byte, 9)}, cut)
				}
			}
			if !bytes.Equal(allA, keptA) || !bytes.Equal(allB, keptB) {
				t.Errorf("%v, %v became %v, %v", keptA, keptB, allA, allB)
			}
		}
	}
	for _, r := range samples() {
		short, all := roomy(laid(r))
		kept := slices.Clone(all)
		for cut := range min(len(short), 40) {
			Read(short[:cut])
			Read(short[cut:])
		}
		Read(short)
		Read(all)
		if !bytes.Equal(all, kept) {
			t.Errorf("%v became %v", kept, all)
		}
	}
}

// overwrite changes each byte, in the spare room too.
func overwrite(b []byte) {
	b = b[:cap(b)]
	for i := range b {
		b[i] ^= 255
	}
}

// Neither do a record's bytes hang on what is changed later, nor those that are coded next.
func TestCodedIsNewMemory(t *testing.T) {
	for _, sample := range samples() {
		r := copyOf(sample)
		one, _ := Code(r)
		two, _ := Code(r)
		overwrite(r.Config)
		if !bytes.Equal(one, laid(sample)) || !bytes.Equal(two, laid(sample)) {
			t.Errorf("%v, or %v, hang on a record that was changed", one, two)
		}
		r = copyOf(sample)
		one, _ = Code(r)
		overwrite(one)
		if !bytes.Equal(two, laid(sample)) || !like(r, sample) {
			t.Errorf("%v, or %v, hang on an earlier answer", two, r)
		}
		wantCode(t, sample, two)
	}
}

// Neither does a record hang on what is changed later, nor those that are read next.
func TestReadIsNewMemory(t *testing.T) {
	for _, sample := range samples() {
		b, all := roomy(laid(sample))
		kept := slices.Clone(all)
		one, _ := Read(b)
		two, _ := Read(b)
		overwrite(one.Config)
		if !like(two, sample) || !bytes.Equal(all, kept) {
			t.Errorf("%v, or %v, hang on an earlier answer", two, all)
		}
		overwrite(b)
		if !like(two, sample) {
			t.Errorf("%v hangs on bytes that were changed", two)
		}
		wantRead(t, kept[:len(b)], sample)
	}
}

func TestRecoveredIsNewMemory(t *testing.T) {
	for _, sample := range samples() {
		for _, f := range []api.Flash{{A: laid(sample)}, {B: laid(sample)}, {A: laid(sample), B: laid(sample)}} {
			kept := copyOfFlash(f)
			one, _, _ := Recover(f)
			two, _, _ := Recover(f)
			overwrite(one.Config)
			if !like(two, sample) || !sameFlash(f, kept) {
				t.Errorf("%v, or %v, hang on an earlier answer", two, f)
			}
			overwrite(f.A)
			overwrite(f.B)
			if !like(two, sample) {
				t.Errorf("%v hangs on a flash that was changed", two)
			}
		}
	}
}

// Neither slot of a flash hangs on what is changed later, on the other slot, or on what is written next.
func TestWrittenIsNewMemory(t *testing.T) {
	for _, a := range helds() {
		for _, b := range helds() {
			f, latest, _ := flashOf(a, b)
			if latest.Gen == api.MaxGen {
				continue
			}
			was := copyOfFlash(f)
			for _, cut := range []int{-1, 0, 1, 5, 8, 1000} {
				sample := api.Record{Gen: latest.Gen + 1, Mode: 1, Config: []byte{1, 2, 3}}
				r := copyOf(sample)
				one, _, _ := Write(f, r, cut)
				two, _, _ := Write(f, r, cut)
				kept := copyOfFlash(one)
				overwrite(one.A)
				if !bytes.Equal(one.B, kept.B) {
					t.Errorf("%v hangs on the other slot", one.B)
				}
				overwrite(one.B)
				if !sameFlash(two, kept) || !sameFlash(f, was) || !like(r, sample) {
					t.Errorf("%v, %v, or %v hang on an earlier answer", two, f, r)
				}
				overwrite(f.A)
				overwrite(f.B)
				overwrite(r.Config)
				if !sameFlash(two, kept) {
					t.Errorf("%v hangs on what was changed", two)
				}
				f = copyOfFlash(was)
			}
		}
	}
}

// What is handed in may lie in one memory: a slot's in the other one's, or in a record's.
func TestSharedMemory(t *testing.T) {
	old := api.Record{Gen: 7, Clock: 3, Mode: 2, Config: []byte{1, 2, 3, 4, 5, 6, 7, 8, 9}}
	b := laid(old)
	r := api.Record{Gen: 8, Mode: 1, Config: b[2:9]}
	want := laid(r)
	kept := slices.Clone(b)
	for cut := range len(want) + 2 {
		part := want[:min(cut, len(want))]
		wantWrite(t, api.Flash{A: b, B: b}, r, cut, api.Flash{A: kept, B: part}, cut >= len(want))
		wantWrite(t, api.Flash{A: b[:5], B: b}, r, cut, api.Flash{A: part, B: kept}, cut >= len(want))
		wantWrite(t, api.Flash{A: b, B: b[5:]}, r, cut, api.Flash{A: kept, B: part}, cut >= len(want))
	}
	if !bytes.Equal(b, kept) {
		t.Errorf("%v became %v", kept, b)
	}
}

func TestP1AllArgumentsEnd(t *testing.T) {
	next := chance(128)
	for length := range 200 {
		for range 50 {
			b := someBytes(next, length)
			if next(2) == 0 {
				for i := range b {
					b[i] %= 16
				}
			}
			if len(b) > 0 && next(2) == 0 {
				b[0] = 6
			}
			wantAsReckoned(t, b)
			wantAsReckoned(t, sealed(b))
			f := api.Flash{A: b, B: sealed(b)}
			Recover(f)
			Write(f, anyRecord(next, 1+next(300)), next(300)-50)
		}
	}
	wantNoRead(t, make([]byte, 1<<20), api.ErrFlashForm)
	wantNoRead(t, bytes.Repeat([]byte{255}, 1<<20), api.ErrWireLong)
	wantNoRead(t, append(laid(plain()), make([]byte, 1<<20)...), api.ErrFlashTail)
	wantNoRead(t, slices.Concat(row(1, 0, 0), number(4096), make([]byte, 1<<20)), api.ErrFlashTail)
	wantNoCode(t, api.Record{Gen: 1, Config: make([]byte, 1<<20)})
	wantNoRecover(t, api.Flash{A: make([]byte, 1<<20), B: bytes.Repeat([]byte{255}, 1<<20)})
	wantNoWrite(t, api.Flash{A: make([]byte, 1<<20)}, api.Record{Gen: 1, Config: make([]byte, 1<<20)}, api.MaxInt, api.ErrFlashForm)
	wantWrite(t, api.Flash{A: laid(plain()), B: make([]byte, 1<<20)}, api.Record{Gen: 301}, api.MinInt, api.Flash{A: laid(plain())}, false)
}
