package codec

import (
	"bytes"
	"errors"
	"fmt"
	"reflect"
	"slices"
	"strings"
	"testing"

	"newel/api"
	"newel/config"
)

// head is what stands ahead of the rows, and the most numbers that a row may have.
const (
	head      = "\x4e\x57\x01"
	mostInRow = 112
)

// plain is a configuration that may be, in which all numbers differ, that of Abroad too.
func plain() api.Config {
	return api.Config{
		Floors: 64, Cars: 8, Park: 40, Stops: []int{13, 21},
		Times: api.Times{Travel: 14, Level: 15, Open: 16, Dwell: 50, Lead: 10, Close: 17, Hold: 18},
		Rest:  200, Pater: 100,
		Zone: api.Zone{
			Base: -300, Shift: 60,
			On:  api.Turn{Month: 9, Week: 4, Weekday: 0, Minute: 120},
			Off: api.Turn{Month: 12, Week: 5, Weekday: 6, Minute: 180},
		},
		Sun:     api.Sun{1000, 1051, 1102, 1153, 1184, 1205, 1176, 1137, 1088, 1039, 1010, 991},
		Abroad:  true,
		Windows: []api.Window{{Kind: 3, Mode: 2, Prio: 19, Arg: 7, Shift: -1, Minute: 600, Len: 90}},
	}
}

// plainBytes is its bytes, but for the sum, written out.
func plainBytes() []byte {
	return []byte{
		78, 87, 1,
		12, 128, 1, 16, 80, 144, 3, 200, 1, 2,
		4, 26, 42,
		14, 28, 30, 32, 100, 20, 34, 36,
		20, 215, 4, 120, 18, 8, 0, 240, 1, 24, 10, 12, 232, 2,
		24, 208, 15, 182, 16, 156, 17, 130, 18, 192, 18, 234, 18, 176, 18, 226, 17, 128, 17, 158, 16, 228, 15, 190, 15,
		14, 6, 4, 38, 14, 1, 176, 9, 180, 1,
	}
}

// here is one that is not abroad, in which all numbers differ too.
func here() api.Config {
	c := plain()
	c.Abroad, c.Zone.On.Weekday = false, 1
	return c
}

// least is one with all numbers as low as they may be, and no windows.
func least() api.Config {
	return api.Config{
		Floors: 2, Cars: 1, Stops: []int{0, 1}, Times: api.Times{Travel: 1, Level: 1, Open: 1, Dwell: 1, Lead: 1, Close: 1}, Rest: 1, Pater: 1,
		Zone: api.Zone{Base: -720}, Sun: api.Sun{900, 900, 900, 900, 900, 900, 900, 900, 900, 900, 900, 900},
	}
}

// most is one with all numbers as high as they may be, 64 stops and 16 windows: none has more bytes.
func most() api.Config {
	c := api.Config{
		Floors: 64, Cars: 8, Park: 63, Times: api.Times{Travel: 60, Level: 60, Open: 60, Dwell: 60, Lead: 60, Close: 60, Hold: 60}, Rest: 300, Pater: 300,
		Zone: api.Zone{Base: 840, Shift: 120, On: api.Turn{Month: 2, Week: 5, Weekday: 6, Minute: 1439}, Off: api.Turn{Month: 12, Week: 5, Weekday: 6, Minute: 1439}},
		Sun:  api.Sun{1320, 1320, 1320, 1320, 1320, 1320, 1320, 1320, 1320, 1320, 1320, 1320}, Abroad: true,
	}
	for floor := range 64 {
		c.Stops = append(c.Stops, floor)
	}
	for range 16 {
		c.Windows = append(c.Windows, api.Window{Kind: 2, Mode: 5, Prio: 99, Arg: 3651998, Minute: 1439, Len: 10080})
	}
	return c
}

// sixteen is one with as many windows as may be, of each kind, no two the same.
func sixteen() api.Config {
	c := here()
	c.Windows = nil
	for i := range 4 {
		c.Windows = append(c.Windows,
			api.Window{Kind: 1, Mode: 3, Prio: 10 + i, Arg: 65 + i, Minute: 1200, Len: 600 - i},
			api.Window{Kind: 2, Mode: 2, Prio: 20 + i, Arg: 738605 - i, Minute: 480, Len: 60},
			api.Window{Kind: 3, Mode: 4, Prio: 30 + i, Arg: 5, Shift: 2*i - 5, Minute: 600 + i, Len: 90},
			api.Window{Kind: 4, Mode: 1, Prio: 40 + i, Minute: 18 + i, Len: 42 - i},
		)
	}
	return c
}

// samples are configurations that may be: no windows, one, and 16; two stops, and 64; abroad and not; a zone with a shift and without one, ahead and behind.
func samples() []api.Config {
	bare := plain()
	bare.Windows = nil
	empty := plain()
	empty.Windows = []api.Window{}
	far := here()
	far.Zone = api.Zone{Base: 840}
	allStops := plain()
	allStops.Stops = most().Stops
	ahead := sixteen()
	ahead.Zone.Base, ahead.Zone.On, ahead.Zone.Off = -1, ahead.Zone.Off, ahead.Zone.On
	return []api.Config{plain(), here(), least(), most(), sixteen(), bare, empty, far, allStops, ahead}
}

// cloned is a configuration in memory of its own.
func cloned(c api.Config) api.Config {
	c.Stops, c.Windows = slices.Clone(c.Stops), slices.Clone(c.Windows)
	return c
}

// chance makes a row of numbers without an order, the same one from each beginning.
func chance(seed uint64) func(below int) int {
	return func(below int) int {
		seed = seed*6364136223846793005 + 1442695040888963407
		return int((seed ^ seed>>29) >> 16 % uint64(below))
	}
}

// reckonedNumber is a number's bytes, by the words of chapter 8.
func reckonedNumber(n int) []byte {
	code := 2 * uint64(n)
	if n < 0 {
		code = 2*uint64(-1-n) + 1
	}
	b := []byte{byte(code % 128)}
	for code /= 128; code > 0; code /= 128 {
		b[len(b)-1] += 128
		b = append(b, byte(code%128))
	}
	return b
}

// reckonedRow is the bytes of a row, by the words of chapter 8.
func reckonedRow(row []int) []byte {
	b := reckonedNumber(len(row))
	for _, n := range row {
		b = append(b, reckonedNumber(n)...)
	}
	return b
}

// sealed is bytes with their sum behind them, bit by bit, by the words of chapter 9.
func sealed(b []byte) []byte {
	sum := 65535
	for _, x := range b {
		for bit := 7; bit >= 0; bit-- {
			apart := sum / 32768
			sum = sum * 2 % 65536
			if apart != int(x)>>bit&1 {
				sum ^= 4129
			}
		}
	}
	return slices.Concat(b, []byte{byte(sum / 256), byte(sum % 256)})
}

// reckonedRows is the six rows of a configuration, by the words of the chapter.
func reckonedRows(c api.Config) [][]int {
	mark := 0
	if c.Abroad {
		mark = 1
	}
	t, z, s := c.Times, c.Zone, c.Sun
	var windows []int
	for _, w := range c.Windows {
		windows = append(windows, w.Kind, w.Mode, w.Prio, w.Arg, w.Shift, w.Minute, w.Len)
	}
	return [][]int{
		{c.Floors, c.Cars, c.Park, c.Rest, c.Pater, mark},
		slices.Clone(c.Stops),
		{t.Travel, t.Level, t.Open, t.Dwell, t.Lead, t.Close, t.Hold},
		{z.Base, z.Shift, z.On.Month, z.On.Week, z.On.Weekday, z.On.Minute, z.Off.Month, z.Off.Week, z.Off.Weekday, z.Off.Minute},
		{s[0], s[1], s[2], s[3], s[4], s[5], s[6], s[7], s[8], s[9], s[10], s[11]},
		windows,
	}
}

// reckonedConfig is the configuration of six rows that are of the right lengths.
func reckonedConfig(rows [][]int) api.Config {
	a, t, z, s := rows[0], rows[2], rows[3], rows[4]
	c := api.Config{
		Floors: a[0], Cars: a[1], Park: a[2], Rest: a[3], Pater: a[4], Abroad: a[5] == 1, Stops: rows[1],
		Times: api.Times{Travel: t[0], Level: t[1], Open: t[2], Dwell: t[3], Lead: t[4], Close: t[5], Hold: t[6]},
		Zone: api.Zone{
			Base: z[0], Shift: z[1],
			On:  api.Turn{Month: z[2], Week: z[3], Weekday: z[4], Minute: z[5]},
			Off: api.Turn{Month: z[6], Week: z[7], Weekday: z[8], Minute: z[9]},
		},
		Sun: api.Sun{s[0], s[1], s[2], s[3], s[4], s[5], s[6], s[7], s[8], s[9], s[10], s[11]},
	}
	for w := rows[5]; len(w) > 0; w = w[7:] {
		c.Windows = append(c.Windows, api.Window{Kind: w[0], Mode: w[1], Prio: w[2], Arg: w[3], Shift: w[4], Minute: w[5], Len: w[6]})
	}
	return c
}

// laidRows is the bytes of rows behind the head, without a sum.
func laidRows(rows [][]int) []byte {
	b := []byte(head)
	for _, row := range rows {
		b = append(b, reckonedRow(row)...)
	}
	return b
}

// laid is a configuration's bytes, whether it may be or not.
func laid(c api.Config) []byte {
	return sealed(laidRows(reckonedRows(c)))
}

// reckonedGet is the number that begins bytes, and those behind it, by the words of P8.1.
func reckonedGet(b []byte) (int, []byte, api.Errno) {
	code := uint64(0)
	for i, x := range b {
		if i == 9 && x > 1 {
			return 0, nil, api.ErrWireLong
		}
		code += uint64(x%128) << (7 * i)
		if x >= 128 {
			continue
		}
		if i > 0 && x == 0 {
			return 0, nil, api.ErrWireLong
		}
		if code%2 == 1 {
			return -1 - int(code/2), b[i+1:], api.OK
		}
		return int(code / 2), b[i+1:], api.OK
	}
	return 0, nil, api.ErrWireShort
}

// reckonedGetRow is the row that begins bytes, and those behind it, by the words of P8.2.
func reckonedGetRow(b []byte) ([]int, []byte, api.Errno) {
	count, b, err := reckonedGet(b)
	if err != api.OK {
		return nil, nil, err
	}
	if count < 0 || count > mostInRow {
		return nil, nil, api.ErrWireMany
	}
	var row []int
	for len(row) < count {
		var n int
		if n, b, err = reckonedGet(b); err != api.OK {
			return nil, nil, err
		}
		row = append(row, n)
	}
	return row, b, api.OK
}

// reckonedDecode is Decode by the words of P11.2.
func reckonedDecode(b []byte) (api.Config, api.Errno) {
	if len(b) < 2 {
		return api.Config{}, api.ErrCrcShort
	}
	rest := b[:len(b)-2]
	switch {
	case !slices.Equal(sealed(rest), b):
		return api.Config{}, api.ErrCrcSum
	case len(rest) < 2 || rest[0] != 78 || rest[1] != 87:
		return api.Config{}, api.ErrCodecMagic
	case len(rest) < 3 || rest[2] != 1:
		return api.Config{}, api.ErrCodecVersion
	}
	rest = rest[3:]
	var rows [][]int
	for i := range 6 {
		row, behind, err := reckonedGetRow(rest)
		if err != api.OK {
			return api.Config{}, err
		}
		if !reckonedRight(i, row) {
			return api.Config{}, api.ErrCodecRow
		}
		rows, rest = append(rows, row), behind
	}
	if len(rest) > 0 {
		return api.Config{}, api.ErrCodecTail
	}
	c := reckonedConfig(rows)
	if err := config.Check(c); err != api.OK {
		return api.Config{}, err
	}
	return c, api.OK
}

// reckonedRight is whether a row, from 0 on, has as many numbers as it takes, and a mark that is one.
func reckonedRight(i int, row []int) bool {
	switch i {
	case 0:
		return len(row) == 6 && (row[5] == 0 || row[5] == 1)
	case 1:
		return true
	case 5:
		return len(row)%7 == 0
	}
	return len(row) == []int{0, 0, 7, 10, 12}[i]
}

// wantEncode holds Encode to bytes.
func wantEncode(t *testing.T, c api.Config, want []byte) {
	t.Helper()
	if b, err := Encode(c); !slices.Equal(b, want) || err != api.OK {
		t.Errorf("Encode(%+v) = %v, %d, want %v", c, b, err, want)
	}
}

// wantNoEncode holds Encode to an error, with no bytes.
func wantNoEncode(t *testing.T, c api.Config, want api.Errno) {
	t.Helper()
	if b, err := Encode(c); len(b) != 0 || err != want {
		t.Errorf("Encode(%+v) = %v, %d, want none, %d", c, b, err, want)
	}
}

// wantDecode holds Decode to a configuration.
func wantDecode(t *testing.T, b []byte, want api.Config) {
	t.Helper()
	if c, err := Decode(b); !config.Same(c, want) || err != api.OK {
		t.Errorf("Decode(%v) = %+v, %d, want %+v", b, c, err, want)
	}
}

// wantNoDecode holds Decode to an error, with the zero configuration.
func wantNoDecode(t *testing.T, b []byte, want api.Errno) {
	t.Helper()
	if c, err := Decode(b); !isZero(c) || err != want {
		t.Errorf("Decode(%v) = %+v, %d, want none, %d", b, c, err, want)
	}
}

// wantAsReckoned holds Decode to its words, and is whether there was a configuration.
func wantAsReckoned(t *testing.T, b []byte) bool {
	t.Helper()
	c, err := reckonedDecode(b)
	if err != api.OK {
		wantNoDecode(t, b, err)
		return false
	}
	wantDecode(t, b, c)
	return true
}

// isZero is whether a configuration is the zero one.
func isZero(c api.Config) bool {
	return reflect.DeepEqual(c, api.Config{})
}

// leaves is each single number and flag of a configuration, wherever in it it lies.
func leaves(c *api.Config) []reflect.Value {
	return leavesOf(reflect.ValueOf(c).Elem(), nil)
}

// leavesOf is a list with the numbers and flags of a value behind it.
func leavesOf(v reflect.Value, list []reflect.Value) []reflect.Value {
	switch v.Kind() {
	case reflect.Struct:
		for i := range v.NumField() {
			list = leavesOf(v.Field(i), list)
		}
	case reflect.Slice, reflect.Array:
		for i := range v.Len() {
			list = leavesOf(v.Index(i), list)
		}
	default:
		list = append(list, v)
	}
	return list
}

func TestP11_1PlainBytes(t *testing.T) {
	for _, c := range []api.Config{plain(), here()} {
		all := slices.Concat(reckonedRows(c)...)
		slices.Sort(all)
		if len(all) != 6+2+7+10+12+7 || len(slices.Compact(all)) != 44 {
			t.Fatalf("%v: the numbers do not all differ", all)
		}
		wantEncode(t, c, laid(c))
	}
	wantEncode(t, plain(), sealed(plainBytes()))
	wantDecode(t, sealed(plainBytes()), plain())
}

func TestP11_1Bytes(t *testing.T) {
	for _, c := range samples() {
		wantEncode(t, c, laid(c))
	}
}

// Each number and flag that may be changed, where it stands, changes just what it should.
func TestP11_1EachNumber(t *testing.T) {
	changed := 0
	for _, c := range samples() {
		for i := range leaves(&c) {
			d := cloned(c)
			leaf := leaves(&d)[i]
			for _, step := range []int64{-1, 1, 7, -64} {
				if leaf.Kind() == reflect.Bool {
					leaf.SetBool(!leaf.Bool())
				} else {
					leaf.SetInt(leaf.Int() + step)
				}
				if err := config.Check(d); err != api.OK {
					wantNoEncode(t, d, err)
				} else {
					wantEncode(t, d, laid(d))
					changed++
				}
			}
		}
	}
	if changed < 1000 {
		t.Errorf("%d changed ones may be", changed)
	}
}

func TestP11_1RoomIsNotEncoded(t *testing.T) {
	c := plain()
	c.Stops = append(c.Stops, 30, 31)[:2]
	c.Windows = append(c.Windows, api.Window{Kind: 1})[:1]
	wantEncode(t, c, laid(plain()))
	c.Windows = c.Windows[:0]
	bare := plain()
	bare.Windows = nil
	wantEncode(t, c, laid(bare))
}

// fault is something that is wrong with a configuration, or with bytes in pieces, in which row of them (0: in none), and what it tells.
type fault struct {
	name   string
	err    api.Errno
	row    int
	config func(c *api.Config)
	pieces func(p *pieces)
}

// pieces is bytes that can be spoiled, piece by piece.
type pieces struct {
	head []byte
	rows [6]rowPieces
	tail []byte
	turn byte // what is turned of the last byte of the sum
}

// rowPieces is the bytes of a row.
type rowPieces struct {
	count   []byte
	numbers [][]byte
}

// piecesOf is the bytes of a configuration, in pieces.
func piecesOf(c api.Config) *pieces {
	p := &pieces{head: []byte(head)}
	for i, row := range reckonedRows(c) {
		for _, n := range row {
			p.rows[i].numbers = append(p.rows[i].numbers, reckonedNumber(n))
		}
		p.rows[i].recount()
	}
	return p
}

// recount sets how many numbers a row has.
func (r *rowPieces) recount() {
	r.count = reckonedNumber(len(r.numbers))
}

// whole is the bytes of pieces, sealed.
func (p *pieces) whole() []byte {
	b := slices.Clone(p.head)
	for _, r := range p.rows {
		b = append(b, r.count...)
		b = append(b, slices.Concat(r.numbers...)...)
	}
	b = sealed(append(b, p.tail...))
	b[len(b)-1] ^= p.turn
	return b
}

// cutBehind takes away all that stands behind a row, from 0 on.
func (p *pieces) cutBehind(i int) {
	for behind := i + 1; behind < 6; behind++ {
		p.rows[behind] = rowPieces{}
	}
	p.tail = nil
}

// longer is a number's bytes, and one more than they need.
func longer(b []byte) []byte {
	b = slices.Clone(b)
	b[len(b)-1] += 128
	return append(b, 0)
}

// configFaults is what may be wrong with a configuration, each in numbers of its own, in the order of their errors.
func configFaults() []fault {
	return []fault{
		{name: "Cars", err: api.ErrConfigSize, config: func(c *api.Config) { c.Cars = 9 }},
		{name: "Stops", err: api.ErrConfigStops, config: func(c *api.Config) { c.Stops[1] = c.Stops[0] }},
		{name: "Travel", err: api.ErrConfigTimes, config: func(c *api.Config) { c.Times.Travel = 61 }},
		{name: "Base", err: api.ErrZoneBase, config: func(c *api.Config) { c.Zone.Base = -721 }},
		{name: "Shift", err: api.ErrZoneShift, config: func(c *api.Config) { c.Zone.Shift = -1 }},
		{name: "Turn", err: api.ErrZoneTurn, config: func(c *api.Config) { c.Zone.Off.Month = 13 }},
		{name: "Minute", err: api.ErrSunMinute, config: func(c *api.Config) { c.Sun[11] = 1321 }},
		{name: "Step", err: api.ErrSunStep, config: func(c *api.Config) { c.Sun[2], c.Sun[3] = 1000, 1121 }},
		{name: "Window", err: api.ErrConfigWindow, config: func(c *api.Config) { c.Windows[0].Shift = -8 }},
	}
}

// manyFault is a fault of configurations that no bytes can have: of 17 windows the row is too long.
func manyFault() fault {
	return fault{name: "Many", err: api.ErrConfigMany, config: func(c *api.Config) { c.Windows = slices.Repeat(c.Windows[:1], 17) }}
}

// rowFaults is what may be wrong with a row, from 0 on, in the order in which it is told.
func rowFaults(i int) []fault {
	list := []fault{
		{name: "cut ahead", err: api.ErrWireShort, pieces: func(p *pieces) { p.rows[i] = rowPieces{}; p.cutBehind(i) }},
		{name: "cut in the count", err: api.ErrWireShort, pieces: func(p *pieces) { p.rows[i] = rowPieces{count: []byte{140}}; p.cutBehind(i) }},
		{name: "long count", err: api.ErrWireLong, pieces: func(p *pieces) { p.rows[i].count = longer(p.rows[i].count) }},
		{name: "count below 0", err: api.ErrWireMany, pieces: func(p *pieces) { p.rows[i].count = reckonedNumber(-1) }},
		{name: "count of 113", err: api.ErrWireMany, pieces: func(p *pieces) { p.rows[i].count = reckonedNumber(113) }},
		{name: "long number", err: api.ErrWireLong, pieces: func(p *pieces) { p.rows[i].numbers[0] = longer(p.rows[i].numbers[0]) }},
		{name: "cut ahead of the last number", err: api.ErrWireShort, pieces: func(p *pieces) {
			r := &p.rows[i]
			r.numbers = r.numbers[:len(r.numbers)-1]
			p.cutBehind(i)
		}},
		{name: "cut in the last number", err: api.ErrWireShort, pieces: func(p *pieces) {
			r := &p.rows[i]
			r.numbers[len(r.numbers)-1] = []byte{140}
			p.cutBehind(i)
		}},
	}
	if i != 1 {
		list = append(list,
			fault{name: "a number less", err: api.ErrCodecRow, pieces: func(p *pieces) {
				r := &p.rows[i]
				r.numbers = r.numbers[:len(r.numbers)-1]
				r.recount()
			}},
			fault{name: "a number more", err: api.ErrCodecRow, pieces: func(p *pieces) {
				r := &p.rows[i]
				r.numbers = append(r.numbers, reckonedNumber(1))
				r.recount()
			}},
		)
	}
	if i == 0 {
		list = append(list, fault{name: "mark", err: api.ErrCodecRow, pieces: func(p *pieces) { p.rows[0].numbers[5] = reckonedNumber(2) }})
	}
	for j := range list {
		list[j].row = i + 1
		list[j].name += fmt.Sprintf(", row %d", i+1)
	}
	return list
}

// faults is all that may be wrong with bytes, in the order in which it is told. (Less than two bytes can have no fault more.)
func faults() []fault {
	list := []fault{
		{name: "sum", err: api.ErrCrcSum, pieces: func(p *pieces) { p.turn = 1 }},
		{name: "magic", err: api.ErrCodecMagic, pieces: func(p *pieces) { p.head[1] = 86 }},
		{name: "version", err: api.ErrCodecVersion, pieces: func(p *pieces) { p.head[2] = 2 }},
	}
	for i := range 6 {
		list = append(list, rowFaults(i)...)
	}
	list = append(list, fault{name: "tail", err: api.ErrCodecTail, pieces: func(p *pieces) { p.tail = []byte{0} }})
	return append(list, configFaults()...)
}

// spoiledConfig is a configuration with faults.
func spoiledConfig(list ...fault) api.Config {
	c := plain()
	for _, f := range list {
		f.config(&c)
	}
	return c
}

// spoiled is bytes with faults, that are handed in in the order in which they are told: the last one is done first, so that those ahead of it find it there, and none is undone.
func spoiled(list ...fault) []byte {
	c := plain()
	for _, f := range list {
		if f.config != nil {
			f.config(&c)
		}
	}
	p := piecesOf(c)
	for _, f := range slices.Backward(list) {
		if f.pieces != nil {
			f.pieces(p)
		}
	}
	return p.whole()
}

func TestP11_1Errors(t *testing.T) {
	wantNoEncode(t, api.Config{}, api.ErrConfigSize)
	for _, f := range append(configFaults(), manyFault()) {
		wantNoEncode(t, spoiledConfig(f), f.err)
	}
	for _, c := range samples() {
		for _, f := range configFaults()[:7] {
			d := cloned(c)
			f.config(&d)
			wantNoEncode(t, d, config.Check(d))
			wantNoEncode(t, d, f.err)
		}
	}
}

func TestP11_1TwoErrors(t *testing.T) {
	list := configFaults()
	list = slices.Insert(list, 8, manyFault())
	for i, first := range list {
		for _, behind := range list[i+1:] {
			wantNoEncode(t, spoiledConfig(first, behind), first.err)
			wantNoEncode(t, spoiledConfig(behind, first), first.err)
		}
	}
}

func TestP11_2WhatIsEncoded(t *testing.T) {
	for _, c := range samples() {
		b, _ := Encode(c)
		wantDecode(t, b, c)
		wantDecode(t, laid(c), c)
	}
}

func TestP11_2Example(t *testing.T) {
	wantNoDecode(t, sealed([]byte{78, 87, 2}), api.ErrCodecVersion)
}

func TestP11_2ByteTurned(t *testing.T) {
	for _, c := range samples() {
		b := laid(c)
		for i := range b {
			for turn := 1; turn < 256; turn++ {
				if len(b) > 150 && turn&(turn-1) != 0 && turn != 255 {
					continue // of many bytes each bit alone, and all
				}
				b[i] ^= byte(turn)
				wantNoDecode(t, b, api.ErrCrcSum)
				b[i] ^= byte(turn)
			}
		}
		wantDecode(t, b, c)
	}
}

func TestP11_2BytesCut(t *testing.T) {
	for _, c := range samples() {
		b := laid(c)
		wantNoDecode(t, nil, api.ErrCrcShort)
		wantNoDecode(t, b[:0], api.ErrCrcShort)
		wantNoDecode(t, b[:1], api.ErrCrcShort)
		for cut := 2; cut < len(b); cut++ {
			wantNoDecode(t, b[:cut], api.ErrCrcSum)
		}
		for cut := 1; cut < len(b)-1; cut++ {
			wantNoDecode(t, b[cut:], api.ErrCrcSum)
		}
	}
}

// Behind sealed bytes a 0 is the one byte that makes a right sum: what then is opened ends with the sum's higher half, which is left behind the rows.
func TestP11_2ByteMore(t *testing.T) {
	for _, c := range samples() {
		b := laid(c)
		wantNoDecode(t, slices.Concat(b, []byte{0}), api.ErrCodecTail)
		for x := 1; x < 256; x++ {
			wantNoDecode(t, slices.Concat(b, []byte{byte(x)}), api.ErrCrcSum)
		}
		for x := range 256 {
			wantNoDecode(t, slices.Concat([]byte{byte(x)}, b), api.ErrCrcSum)
		}
	}
}

func TestP11_2FewBytes(t *testing.T) {
	wantNoDecode(t, nil, api.ErrCrcShort)
	wantNoDecode(t, []byte{}, api.ErrCrcShort)
	for x := range 256 {
		wantNoDecode(t, []byte{byte(x)}, api.ErrCrcShort)
		for y := range 256 {
			want := api.ErrCrcSum
			if x == 255 && y == 255 { // the sum of no byte
				want = api.ErrCodecMagic
			}
			wantNoDecode(t, []byte{byte(x), byte(y)}, want)
		}
	}
}

func TestP11_2Heads(t *testing.T) {
	rows := laidRows(reckonedRows(plain()))[3:]
	for _, behind := range [][]byte{nil, {0}, rows, slices.Concat([]byte(head), rows)} {
		for _, x := range []struct {
			head []byte
			want api.Errno
		}{
			{[]byte{77, 87, 1}, api.ErrCodecMagic}, {[]byte{78, 86, 1}, api.ErrCodecMagic}, {[]byte{87, 78, 1}, api.ErrCodecMagic}, {[]byte{78, 88, 1}, api.ErrCodecMagic}, {[]byte{79, 87, 1}, api.ErrCodecMagic},
			{[]byte{78, 1, 87}, api.ErrCodecMagic}, {[]byte{1, 78, 87}, api.ErrCodecMagic}, {[]byte{206, 87, 1}, api.ErrCodecMagic}, {[]byte{78, 215, 1}, api.ErrCodecMagic}, {[]byte{110, 119, 1}, api.ErrCodecMagic},
			{[]byte{77, 87, 2}, api.ErrCodecMagic}, {[]byte{78, 86, 2}, api.ErrCodecMagic}, {[]byte{78, 78, 87, 1}, api.ErrCodecMagic},
			{[]byte{78, 87, 0}, api.ErrCodecVersion}, {[]byte{78, 87, 2}, api.ErrCodecVersion}, {[]byte{78, 87, 129}, api.ErrCodecVersion}, {[]byte{78, 87, 255}, api.ErrCodecVersion}, {[]byte{78, 87, 78, 87, 1}, api.ErrCodecVersion},
		} {
			wantNoDecode(t, sealed(slices.Concat(x.head, behind)), x.want)
		}
	}
	for _, b := range [][]byte{nil, {78}, {77}, {87}, {0}, {77, 87}, {78, 86}} {
		wantNoDecode(t, sealed(b), api.ErrCodecMagic)
	}
	wantNoDecode(t, sealed([]byte{78, 87}), api.ErrCodecVersion)
	wantNoDecode(t, sealed([]byte{78, 87, 1}), api.ErrWireShort)
	for x := range 256 {
		if x != 78 {
			wantNoDecode(t, sealed(append([]byte{byte(x), 87, 1}, rows...)), api.ErrCodecMagic)
		}
		if x != 87 {
			wantNoDecode(t, sealed(append([]byte{78, byte(x), 1}, rows...)), api.ErrCodecMagic)
		}
		if x != 1 {
			wantNoDecode(t, sealed(append([]byte{78, 87, byte(x)}, rows...)), api.ErrCodecVersion)
		}
	}
}

func TestP11_2RowsCut(t *testing.T) {
	for _, c := range samples() {
		b := laidRows(reckonedRows(c))
		for cut := range b {
			want := api.ErrWireShort
			switch {
			case cut < 2:
				want = api.ErrCodecMagic
			case cut < 3:
				want = api.ErrCodecVersion
			}
			wantNoDecode(t, sealed(b[:cut]), want)
		}
		wantDecode(t, sealed(b), c)
	}
}

// longNumbers is numbers' bytes that are too great, or more than they need, in place of others.
func longNumbers(own []byte) [][]byte {
	nine := bytes.Repeat([]byte{128}, 9)
	return [][]byte{
		longer(own), longer(longer(own)), {128, 0}, {129, 0}, {255, 255, 0},
		append(slices.Clone(nine), 0), append(slices.Clone(nine), 2), append(slices.Clone(nine), 127), append(slices.Clone(nine), 128, 1), append(slices.Clone(nine), 129, 0), bytes.Repeat([]byte{255}, 10), bytes.Repeat([]byte{255}, 20),
	}
}

func TestP11_2NumberTooLong(t *testing.T) {
	for i := range 6 {
		row := piecesOf(plain()).rows[i]
		for _, long := range longNumbers(row.count) {
			p := piecesOf(plain())
			p.rows[i].count = long
			wantNoDecode(t, p.whole(), api.ErrWireLong)
		}
		for at, own := range row.numbers {
			for _, long := range longNumbers(own) {
				p := piecesOf(plain())
				p.rows[i].numbers[at] = long
				wantNoDecode(t, p.whole(), api.ErrWireLong)
			}
		}
	}
}

func TestP11_2RowTooMany(t *testing.T) {
	for i := range 6 {
		for _, count := range []int{113, 114, 119, 120, 126, 200, 4096} {
			rows := reckonedRows(plain())
			rows[i] = make([]int, count)
			wantNoDecode(t, sealed(laidRows(rows)), api.ErrWireMany)
			for at := range rows[i] {
				rows[i][at] = at
			}
			wantNoDecode(t, sealed(laidRows(rows)), api.ErrWireMany)
			wantNoDecode(t, sealed(laidRows(rows[:i+1])), api.ErrWireMany)
		}
		for _, count := range []int{-1, -2, -6, -113, 113, 1 << 31, 1 << 32, 1<<32 + 6, 1 << 62, api.MinInt, api.MinInt + 6, api.MaxInt} {
			p := piecesOf(plain())
			p.rows[i].count = reckonedNumber(count)
			wantNoDecode(t, p.whole(), api.ErrWireMany)
			p.cutBehind(i)
			p.rows[i].numbers = nil
			wantNoDecode(t, p.whole(), api.ErrWireMany)
		}
	}
}

// Of each row all lengths up to the greatest.
func TestP11_2RowLengths(t *testing.T) {
	for i, own := range []int{6, 2, 7, 10, 12, 7} {
		for count := range mostInRow + 1 {
			rows := reckonedRows(plain())
			if len(rows[i]) != own {
				t.Fatalf("row %d has %d numbers", i, len(rows[i]))
			}
			for len(rows[i]) < count {
				rows[i] = append(rows[i], rows[i][:own]...)
			}
			rows[i] = rows[i][:count]
			b := sealed(laidRows(rows))
			switch {
			case count == own || i == 5 && count%7 == 0:
				wantDecode(t, b, reckonedConfig(rows))
			case i == 1:
				wantNoDecode(t, b, api.ErrConfigStops) // as many as one likes, but they do not rise
			default:
				wantNoDecode(t, b, api.ErrCodecRow)
			}
		}
	}
}

func TestP11_2Stops(t *testing.T) {
	for count := range mostInRow + 1 {
		rows := reckonedRows(plain())
		rows[1] = nil
		for stop := range count {
			rows[1] = append(rows[1], stop)
		}
		b := sealed(laidRows(rows))
		if count < 2 || count > 64 {
			wantNoDecode(t, b, api.ErrConfigStops)
		} else {
			wantDecode(t, b, reckonedConfig(rows))
		}
	}
}

func TestP11_2WindowsWithMoreBehind(t *testing.T) {
	for count := range 17 {
		for more := range 7 {
			c := sixteen()
			c.Windows = c.Windows[:count]
			rows := reckonedRows(c)
			for n := range more {
				rows[5] = append(rows[5], n)
			}
			b := sealed(laidRows(rows))
			switch {
			case more == 0:
				wantDecode(t, b, c)
			case count == 16:
				wantNoDecode(t, b, api.ErrWireMany)
			default:
				wantNoDecode(t, b, api.ErrCodecRow)
			}
		}
	}
}

// With a window more than may be the row is too long, whatever the configuration is told to be.
func TestP11_2SeventeenWindows(t *testing.T) {
	for count := 17; count <= 40; count++ {
		c := plain()
		c.Windows = slices.Repeat(c.Windows, count)
		wantNoDecode(t, laid(c), api.ErrWireMany)
		c.Cars = 9
		wantNoDecode(t, laid(c), api.ErrWireMany)
	}
}

func TestP11_2Marks(t *testing.T) {
	for _, c := range []api.Config{plain(), here()} {
		for _, mark := range []int{-1, 2, 3, -2, 127, 128, 256, 257, 1 << 32, 1<<32 + 1, -1 << 32, api.MinInt, api.MinInt + 1, api.MaxInt - 1, api.MaxInt} {
			rows := reckonedRows(c)
			rows[0][5] = mark
			wantNoDecode(t, sealed(laidRows(rows)), api.ErrCodecRow)
		}
		for mark, abroad := range []bool{false, true} {
			rows := reckonedRows(c)
			rows[0][5] = mark
			want := c
			want.Abroad = abroad
			wantDecode(t, sealed(laidRows(rows)), want)
		}
	}
}

func TestP11_2Tails(t *testing.T) {
	for _, c := range samples() {
		b := laidRows(reckonedRows(c))
		for x := range 256 {
			wantNoDecode(t, sealed(slices.Concat(b, []byte{byte(x)})), api.ErrCodecTail)
		}
		for _, row := range [][]int{nil, {0}, {3, 2, 19, 7, -1, 600, 90}, make([]int, 113)} {
			wantNoDecode(t, sealed(slices.Concat(b, reckonedRow(row))), api.ErrCodecTail)
		}
		wantNoDecode(t, sealed(slices.Concat(b, []byte{128, 0})), api.ErrCodecTail)
		wantNoDecode(t, sealed(slices.Concat(b, b)), api.ErrCodecTail)
		wantNoDecode(t, sealed(laid(c)), api.ErrCodecTail) // sealed twice
	}
}

func TestP11_2ConfigErrors(t *testing.T) {
	for _, f := range configFaults() {
		wantNoDecode(t, laid(spoiledConfig(f)), f.err)
	}
	// Numbers that are right as bytes, at their own ends: whatever Check says of them.
	for _, c := range samples() {
		for i := range leaves(&c) {
			for _, value := range []int64{api.MinInt, -1, 0, 1, 2, 3, 61, 901, 1440, api.MaxInt} {
				d := cloned(c)
				leaf := leaves(&d)[i]
				if leaf.Kind() == reflect.Bool {
					continue
				}
				leaf.SetInt(value)
				if err := config.Check(d); err != api.OK {
					wantNoDecode(t, laid(d), err)
				} else {
					wantDecode(t, laid(d), d)
				}
			}
		}
	}
}

func TestP11_2OneError(t *testing.T) {
	wantDecode(t, spoiled(), plain())
	for _, f := range faults() {
		b := spoiled(f)
		wantNoDecode(t, b, f.err)
		wantAsReckoned(t, b)
		if t.Failed() {
			t.Fatal(f.name)
		}
	}
}

func TestP11_2TwoErrors(t *testing.T) {
	list := faults()
	for i, first := range list {
		for _, behind := range list[i+1:] {
			if first.err == behind.err && first.row == behind.row && first.row > 0 {
				continue // one of them may undo the other
			}
			b := spoiled(first, behind)
			wantNoDecode(t, b, first.err)
			wantAsReckoned(t, b)
			if t.Failed() {
				t.Fatalf("%s, and %s", first.name, behind.name)
			}
		}
	}
}

// Of any number of faults, too, the first one is told.
func TestP11_2ManyErrors(t *testing.T) {
	next := chance(111)
	all := faults()
	for range 20000 {
		var list []fault
		in := map[int]bool{} // one a row: two could undo one another
		for range 1 + next(6) {
			f := next(len(all))
			if row := all[f].row; row == 0 || !in[row] {
				in[row] = true
				list = append(list, all[f])
			}
		}
		slices.SortStableFunc(list, func(a, b fault) int { return rank(all, a) - rank(all, b) })
		wantNoDecode(t, spoiled(list...), list[0].err)
	}
}

// rank is a fault's place among all.
func rank(all []fault, f fault) int {
	return slices.IndexFunc(all, func(other fault) bool { return other.name == f.name })
}

// What is wrong with a row says which one it is, and is told by its number, however it was wrapped.
func TestP11_2WrappedErrors(t *testing.T) {
	for _, f := range faults() {
		c, err := read(spoiled(f))
		if err == nil || !isZero(c) {
			t.Fatalf("%s: %+v, %v", f.name, c, err)
		}
		for _, wrapped := range []error{err, fmt.Errorf("wrapped: %w", err), errors.Join(err), rowError{9, err}} {
			if number := numberOf(wrapped); number != f.err {
				t.Errorf("%s: %v is told as %d, want %d", f.name, wrapped, number, f.err)
			}
		}
		var told rowError
		if errors.As(err, &told) != (f.row > 0) || told.row != f.row {
			t.Errorf("%s: %v tells of row %d, want %d", f.name, err, told.row, f.row)
		}
		if f.row > 0 && !strings.HasPrefix(err.Error(), fmt.Sprintf("row %d: ", f.row)) {
			t.Errorf("%s: %q does not say in which row", f.name, err.Error())
		}
		if f.err != api.ErrCodecRow && !errors.Is(err, f.err) {
			t.Errorf("%s: %v does not wrap %d", f.name, err, f.err)
		}
	}
	if number := numberOf(nil); number != api.OK {
		t.Errorf("nothing is told as %d", number)
	}
}

// A row of a wrong length, and one with a mark that is none, are told apart inside.
func TestP11_2RowErrorsInside(t *testing.T) {
	rows := reckonedRows(plain())
	rows[0][5] = 2
	if _, err := read(sealed(laidRows(rows))); !errors.Is(err, errMark) || errors.Is(err, errLength) {
		t.Errorf("a mark that is none: %v", err)
	}
	for i := range 6 {
		rows := reckonedRows(plain())
		rows[i] = append(rows[i], 1)
		if _, err := read(sealed(laidRows(rows))); i != 1 && (!errors.Is(err, errLength) || errors.Is(err, errMark)) {
			t.Errorf("a row %d with a number more: %v", i+1, err)
		}
	}
}

// anyConfig is a configuration that may be, of any size.
func anyConfig(next func(below int) int) api.Config {
	between := func(least, most int) int { return least + next(most-least+1) }
	c := api.Config{
		Floors: between(2, 64), Cars: between(1, 8), Rest: between(1, 300), Pater: between(1, 300),
		Times: api.Times{Travel: between(1, 60), Level: between(1, 60), Open: between(1, 60), Dwell: between(1, 60), Close: between(1, 60), Hold: between(0, 60)},
		Zone:  api.Zone{Base: between(-720, 840)}, Abroad: next(2) == 0,
	}
	c.Park = next(c.Floors)
	c.Times.Lead = between(1, min(c.Times.Dwell, c.Rest, c.Pater))
	for floor := range c.Floors {
		if next(3) > 0 || c.Floors-floor+len(c.Stops) <= 2 {
			c.Stops = append(c.Stops, floor)
		}
	}
	if next(3) > 0 {
		c.Zone.Shift = between(1, 120)
		c.Zone.On = api.Turn{Month: between(1, 12), Week: between(1, 5), Weekday: next(7), Minute: next(1440)}
		c.Zone.Off = api.Turn{Week: between(1, 5), Weekday: next(7), Minute: next(1440)}
		for c.Zone.Off.Month == 0 || max(c.Zone.Off.Month-c.Zone.On.Month, c.Zone.On.Month-c.Zone.Off.Month) < 2 || max(c.Zone.Off.Month-c.Zone.On.Month, c.Zone.On.Month-c.Zone.Off.Month) > 10 {
			c.Zone.Off.Month = between(1, 12)
		}
	}
	low := between(900, 1200)
	for i := range c.Sun {
		c.Sun[i] = between(low, low+120)
	}
	for range next(17) {
		c.Windows = append(c.Windows, anyWindow(next))
	}
	return c
}

// anyWindow is a window that may be, of any kind.
func anyWindow(next func(below int) int) api.Window {
	w := api.Window{Kind: 1 + next(4), Mode: next(6), Prio: next(100), Minute: next(1440), Len: 1 + next(10080)}
	switch w.Kind {
	case api.WinWeekly:
		w.Arg = 1 + next(127)
	case api.WinDated:
		w.Arg = 401 + next(3651598)
	case api.WinFeast:
		w.Arg, w.Shift = 1+next(7), next(15)-7
	case api.WinRest:
		w.Minute, w.Len = next(181), next(181)
	}
	return w
}

func TestP11_1OfAnyConfigurations(t *testing.T) {
	next := chance(112)
	for range 5000 {
		c := anyConfig(next)
		wantEncode(t, c, laid(c))
		wantDecode(t, laid(c), c)
		list := leaves(&c)
		if leaf := list[next(len(list))]; leaf.Kind() == reflect.Int {
			leaf.SetInt([]int64{-1, 0, 1, 301, 1321, api.MinInt, api.MaxInt, int64(next(70)), int64(next(1400))}[next(9)])
		}
		if err := config.Check(c); err != api.OK {
			wantNoEncode(t, c, err)
			wantNoDecode(t, laid(c), err)
		} else {
			wantEncode(t, c, laid(c))
		}
	}
}

func TestP11_3WhatIsEncodedIsDecoded(t *testing.T) {
	next := chance(113)
	list := samples()
	for range 20000 {
		list = append(list, anyConfig(next))
	}
	for _, c := range list {
		b, err := Encode(c)
		if err != api.OK || len(b) > api.MaxBytes {
			t.Fatalf("Encode(%+v) = %d bytes, %d", c, len(b), err)
		}
		wantDecode(t, b, c)
	}
}

// wantEncodedAgain holds what is decoded of bytes to be encoded in just those, and is whether there was something.
func wantEncodedAgain(t *testing.T, b []byte) bool {
	t.Helper()
	if !wantAsReckoned(t, b) {
		return false
	}
	c, _ := Decode(b)
	wantEncode(t, c, b)
	return true
}

// Bytes that are laid by hand, with some of them changed, taken out or put in, ahead of the sum.
func TestP11_3WhatIsDecodedIsEncoded(t *testing.T) {
	next := chance(114)
	list := samples()
	for range 300 {
		list = append(list, anyConfig(next))
	}
	decoded := 0
	for i := range 60000 {
		b := laidRows(reckonedRows(list[i%len(list)]))
		at := next(len(b))
		switch x := byte(next(256)); next(6) {
		case 0:
			b[at] = x
		case 1:
			b[at] ^= 1 << (x % 8)
		case 2:
			b = slices.Insert(b, at, x)
		case 3:
			b = slices.Delete(b, at, at+1)
		case 4: // a number one more, or one less
			b[at] += 4*(x%2) - 2
		case 5: // a byte more than a number takes
			if b[at] < 128 {
				b[at] += 128
				b = slices.Insert(b, at+1, 0)
			}
		}
		if wantEncodedAgain(t, sealed(b)) {
			decoded++
		}
	}
	if decoded < 5000 || decoded > 55000 {
		t.Errorf("%d of the bytes were decoded", decoded)
	}
}

// Rows of numbers that are laid by hand, of which some are put to other places, or to other lengths.
func TestP11_3RowsByHand(t *testing.T) {
	next := chance(115)
	decoded := 0
	for range 20000 {
		rows := reckonedRows(anyConfig(next))
		switch i := next(6); next(4) {
		case 0:
			rows[i] = slices.Concat(rows[i], rows[next(6)])
		case 1:
			rows[i] = rows[i][:next(len(rows[i])+1)]
		case 2:
			rows[i] = rows[next(6)]
		case 3:
			if len(rows[i]) > 0 {
				rows[i][next(len(rows[i]))] += next(5) - 2
			}
		}
		if wantEncodedAgain(t, sealed(laidRows(rows))) {
			decoded++
		}
	}
	if decoded < 2000 {
		t.Errorf("%d of the bytes were decoded", decoded)
	}
}

func TestConfigIsLeftAsItWas(t *testing.T) {
	list := samples()
	for _, f := range append(configFaults(), manyFault()) {
		list = append(list, spoiledConfig(f))
	}
	for _, c := range list {
		stops, windows := append(slices.Clone(c.Stops), 7, 8, 9), append(slices.Clone(c.Windows), api.Window{Kind: 9}, api.Window{Len: 1})
		c.Stops, c.Windows = stops[:len(c.Stops)], windows[:len(c.Windows)]
		was, wasStops, wasWindows := cloned(c), slices.Clone(stops), slices.Clone(windows)
		Encode(c)
		if !config.Same(c, was) || !slices.Equal(stops, wasStops) || !slices.Equal(windows, wasWindows) {
			t.Errorf("%+v became %+v, %v, %v", was, c, stops, windows)
		}
	}
}

func TestBytesAreLeftAsTheyWere(t *testing.T) {
	var list [][]byte
	for _, c := range samples() {
		list = append(list, laid(c))
	}
	for _, f := range faults() {
		list = append(list, spoiled(f))
	}
	for _, b := range list {
		room := append(slices.Clone(b), 1, 2, 3, 4, 5, 6, 7)
		was := slices.Clone(room)
		for _, cut := range []int{0, 1, 2, 3, len(b) - 1, len(b), len(b) + 1} {
			Decode(room[:cut])
		}
		if !slices.Equal(room, was) {
			t.Errorf("%v became %v", was, room)
		}
	}
}

// Neither what was encoded hangs on what is changed later, nor what is encoded next.
func TestEncodedIsNewMemory(t *testing.T) {
	for _, sample := range samples() {
		c := cloned(sample)
		b, _ := Encode(c)
		kept := slices.Clone(b)
		clear(c.Stops)
		clear(c.Windows)
		if !slices.Equal(b, kept) {
			t.Errorf("%v hang on a configuration that was changed", b)
		}
		wantEncode(t, sample, kept)
		clear(b[:cap(b)])
		wantEncode(t, sample, kept)
		one, _ := Encode(sample)
		two, _ := Encode(sample)
		clear(one[:cap(one)])
		if !slices.Equal(two, kept) {
			t.Errorf("%v hang on an earlier answer", two)
		}
	}
}

// Neither what was decoded hangs on what is changed later, nor what is decoded next.
func TestDecodedIsNewMemory(t *testing.T) {
	for _, sample := range samples() {
		b := laid(sample)
		c, _ := Decode(b)
		clear(b)
		if !config.Same(c, sample) {
			t.Errorf("%+v hangs on bytes that were changed", c)
		}
		b = laid(sample)
		one, _ := Decode(b)
		two, _ := Decode(b)
		clear(one.Stops[:cap(one.Stops)])
		clear(one.Windows[:cap(one.Windows)])
		if !config.Same(two, sample) || !slices.Equal(b, laid(sample)) {
			t.Errorf("%+v, or %v, hang on an earlier answer", two, b)
		}
		wantDecode(t, b, sample)
	}
}

func TestP1AllArgumentsEnd(t *testing.T) {
	next := chance(116)
	for _, c := range []api.Config{
		{}, {Floors: api.MaxInt, Cars: api.MaxInt}, {Floors: api.MinInt, Stops: []int{api.MinInt, api.MaxInt}}, {Windows: make([]api.Window, 5000)}, {Stops: make([]int, 5000)},
	} {
		wantNoEncode(t, c, api.ErrConfigSize)
		wantAsReckoned(t, laid(c))
	}
	for length := range 300 {
		for range 20 {
			b := make([]byte, length)
			for i := range b {
				b[i] = byte(next(256))
				if next(2) == 0 {
					b[i] %= 16
				}
			}
			wantAsReckoned(t, b)
			wantAsReckoned(t, sealed(b))
			wantAsReckoned(t, sealed(append([]byte(head), b...)))
		}
	}
	wantNoDecode(t, make([]byte, 1<<20), api.ErrCrcSum)
	wantNoDecode(t, sealed(make([]byte, 1<<20)), api.ErrCodecMagic)
	wantNoDecode(t, sealed(append([]byte(head), make([]byte, 1<<20)...)), api.ErrCodecRow)
	wantNoDecode(t, sealed(append([]byte(head), bytes.Repeat([]byte{255}, 1<<20)...)), api.ErrWireLong)
	wantNoDecode(t, sealed(append(laidRows(reckonedRows(plain())), make([]byte, 1<<20)...)), api.ErrCodecTail)
}
