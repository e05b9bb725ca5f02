package cdb_test

import (
	"bytes"
	"maps"
	"math"
	"math/rand/v2"
	"slices"
	"strings"
	"testing"

	"reticule/api"
	"reticule/cdb"
)

// The senses that are told, written out.
var (
	good    = api.Sense{}
	field   = api.Sense{Key: 0x5, Code: 0x24}
	unknown = api.Sense{Key: 0x5, Code: 0x20}
)

// extremes are whole numbers that wrap round when something is added to them, or that fit when they are cut.
var extremes = []int{math.MinInt, math.MinInt + 1, math.MinInt + 0x28, math.MinInt32, math.MinInt32 + 8, math.MaxInt32, math.MaxUint32, 1 << 32, 1<<32 + 1, 1<<32 + 0x28, 1 << 40, math.MaxInt - 1, math.MaxInt}

// pictures are the ops' bytes, bit by bit behind the first byte, the highest bit first: 0 and 1 as it must be, a, n, p and b of At, N, Page and Bits, and a dot that may be anything. What they can't show stands in likely.
var pictures = map[int]string{
	0x00: "........ ........ ........ ........ 00000000",
	0x03: ".......0 ........ ........ nnnnnnnn 00000000",
	0x08: "...aaaaa aaaaaaaa aaaaaaaa nnnnnnnn 00000000",
	0x0a: "...aaaaa aaaaaaaa aaaaaaaa nnnnnnnn 00000000",
	0x12: ".......b pppppppp nnnnnnnn nnnnnnnn 00000000",
	0x15: "...1...0 ........ ........ nnnnnnnn 00000000",
	0x1a: "........ bbpppppp 00000000 nnnnnnnn 00000000",
	0x1b: "........ ........ ........ 0000..bb 00000000",
	0x1e: "........ ........ ........ ......0b 00000000",
	0x25: "........ 00000000 00000000 00000000 00000000 ........ ........ .......0 00000000",
	0x28: "....b... aaaaaaaa aaaaaaaa aaaaaaaa aaaaaaaa ........ nnnnnnnn nnnnnnnn 00000000",
	0x2a: "....b... aaaaaaaa aaaaaaaa aaaaaaaa aaaaaaaa ........ nnnnnnnn nnnnnnnn 00000000",
	0x2f: ".....0b. aaaaaaaa aaaaaaaa aaaaaaaa aaaaaaaa ........ nnnnnnnn nnnnnnnn 00000000",
	0x35: "........ aaaaaaaa aaaaaaaa aaaaaaaa aaaaaaaa ........ nnnnnnnn nnnnnnnn 00000000",
	0x55: "...1...0 ........ ........ ........ ........ ........ nnnnnnnn nnnnnnnn 00000000",
	0x5a: "........ bbpppppp 00000000 ........ ........ ........ nnnnnnnn nnnnnnnn 00000000",
	0x88: "....b... aaaaaaaa aaaaaaaa aaaaaaaa aaaaaaaa aaaaaaaa aaaaaaaa aaaaaaaa aaaaaaaa nnnnnnnn nnnnnnnn nnnnnnnn nnnnnnnn ........ 00000000",
	0x8a: "....b... aaaaaaaa aaaaaaaa aaaaaaaa aaaaaaaa aaaaaaaa aaaaaaaa aaaaaaaa aaaaaaaa nnnnnnnn nnnnnnnn nnnnnnnn nnnnnnnn ........ 00000000",
	0x8f: ".....0b. aaaaaaaa aaaaaaaa aaaaaaaa aaaaaaaa aaaaaaaa aaaaaaaa aaaaaaaa aaaaaaaa nnnnnnnn nnnnnnnn nnnnnnnn nnnnnnnn ........ 00000000",
	0x91: "........ aaaaaaaa aaaaaaaa aaaaaaaa aaaaaaaa aaaaaaaa aaaaaaaa aaaaaaaa aaaaaaaa nnnnnnnn nnnnnnnn nnnnnnnn nnnnnnnn ........ 00000000",
	0x9e: "...10000 ........ ........ ........ ........ ........ ........ ........ ........ nnnnnnnn nnnnnnnn nnnnnnnn nnnnnnnn ........ 00000000",
	0xa0: "........ ........ ........ ........ ........ nnnnnnnn nnnnnnnn nnnnnnnn nnnnnnnn ........ 00000000",
	0xa8: "....b... aaaaaaaa aaaaaaaa aaaaaaaa aaaaaaaa nnnnnnnn nnnnnnnn nnnnnnnn nnnnnnnn ........ 00000000",
	0xaa: "....b... aaaaaaaa aaaaaaaa aaaaaaaa aaaaaaaa nnnnnnnn nnnnnnnn nnnnnnnn nnnnnnnn ........ 00000000",
	0xaf: ".....0b. aaaaaaaa aaaaaaaa aaaaaaaa aaaaaaaa nnnnnnnn nnnnnnnn nnnnnnnn nnnnnnnn ........ 00000000",
}

// ops are the ops, the least first.
func ops() []int { return slices.Sorted(maps.Keys(pictures)) }

// picture is an op's bits, without the blanks.
func picture(op int) string { return strings.ReplaceAll(pictures[op], " ", "") }

// bitAt is the bit of the picture's place i in a command's bytes: which byte, and which bit of it.
func bitAt(i int) (int, byte) { return 1 + i/8, 0x80 >> (i % 8) }

// likely: are the command, and the bytes that say it, as they must be where no picture shows it?
func likely(c api.Command, b []byte) bool {
	switch c.Op {
	case 0x12:
		return c.Bits == 1 || c.Page == 0
	case 0xa0:
		return b[2] <= 2 && c.N >= 16
	}
	return true
}

// parsed is what Parse must answer.
func parsed(b []byte) (api.Command, api.Sense) {
	if len(b) == 0 || pictures[int(b[0])] == "" {
		return api.Command{}, unknown
	}
	p := picture(int(b[0]))
	if len(b) < 1+len(p)/8 {
		return api.Command{}, field
	}
	got := map[byte]uint64{}
	for i := range p {
		at, mask := bitAt(i)
		bit := uint64(0)
		if b[at]&mask != 0 {
			bit = 1
		}
		if p[i] == '0' && bit != 0 || p[i] == '1' && bit != 1 {
			return api.Command{}, field
		}
		got[p[i]] = got[p[i]]*2 + bit
	}
	c := api.Command{Op: int(b[0]), At: got['a'], N: int(got['n']), Page: int(got['p']), Bits: int(got['b'])}
	if (c.Op == 0x08 || c.Op == 0x0a) && c.N == 0 {
		c.N = 256
	}
	if !likely(c, b) {
		return api.Command{}, field
	}
	return c, good
}

// written is what Bytes must answer: the numbers' bits are taken off, the lowest first, and nothing may be left of them.
func written(c api.Command) ([]byte, bool) {
	if pictures[c.Op] == "" || c.N < 0 || c.Page < 0 || c.Bits < 0 {
		return nil, false
	}
	left := map[byte]uint64{'a': c.At, 'n': uint64(c.N), 'p': uint64(c.Page), 'b': uint64(c.Bits)}
	if c.Op == 0x08 || c.Op == 0x0a {
		if c.N == 0 {
			return nil, false
		}
		if c.N == 256 {
			left['n'] = 0
		}
	}
	p := picture(c.Op)
	b := make([]byte, 1+len(p)/8)
	b[0] = byte(c.Op)
	for i := len(p) - 1; i >= 0; i-- {
		at, mask := bitAt(i)
		if p[i] == '1' || left[p[i]]%2 == 1 {
			b[at] |= mask
		}
		left[p[i]] /= 2
	}
	for _, x := range left {
		if x != 0 {
			return nil, false
		}
	}
	if !likely(c, b) {
		return nil, false
	}
	return b, true
}

// lead is bytes of an op that are good, with nothing set that needn't be.
func lead(op int) []byte {
	p := picture(op)
	b := make([]byte, 1+len(p)/8)
	b[0] = byte(op)
	for i := range p {
		if at, mask := bitAt(i); p[i] == '1' {
			b[at] |= mask
		}
	}
	if op == 0xa0 {
		b[9] = 16
	}
	return b
}

// set is bytes with another one at a place.
func set(b []byte, at int, x byte) []byte {
	b = slices.Clone(b)
	b[at] = x
	return b
}

// checkParse holds Parse against parsed.
func checkParse(t *testing.T, b []byte) {
	t.Helper()
	was := slices.Clone(b)
	wantC, wantS := parsed(b)
	if c, s := cdb.Parse(b); c != wantC || s != wantS {
		t.Errorf("Parse(% x): %+v %x, want %+v %x", b, c, s, wantC, wantS)
	}
	if !bytes.Equal(b, was) {
		t.Errorf("Parse(% x) changed them: % x", was, b)
	}
}

// checkBytes holds Bytes against written, and what it answers against Parse.
func checkBytes(t *testing.T, c api.Command) {
	t.Helper()
	want, ok := written(c)
	b, done := cdb.Bytes(c)
	if done != ok || !bytes.Equal(b, want) {
		t.Errorf("Bytes(%+v): % x %v, want % x %v", c, b, done, want, ok)
	}
	if !done {
		return
	}
	if back, s := cdb.Parse(b); back != c || s != good {
		t.Errorf("Parse(% x): %+v %x, want %+v", b, back, s, c)
	}
}

// P6.1: the 25 ops are known, no other number; each has its size and its class, others have 0.
func TestOps(t *testing.T) {
	want := map[int][2]int{
		api.TestReady: {6, 0}, api.RequestSense: {6, 0}, api.Read6: {6, 1}, api.Write6: {6, 2}, api.Inquiry: {6, 0},
		api.ModeSelect6: {6, 0}, api.ModeSense6: {6, 0}, api.StartStop: {6, 0}, api.Prevent: {6, 0},
		api.Capacity10: {10, 0}, api.Read10: {10, 1}, api.Write10: {10, 2}, api.Verify10: {10, 3}, api.Synchronize10: {10, 4},
		api.ModeSelect10: {10, 0}, api.ModeSense10: {10, 0},
		api.Read16: {16, 1}, api.Write16: {16, 2}, api.Verify16: {16, 3}, api.Synchronize16: {16, 4}, api.Capacity16: {16, 0},
		api.ReportLuns: {12, 0}, api.Read12: {12, 1}, api.Write12: {12, 2}, api.Verify12: {12, 3},
	}
	if len(want) != 25 || len(pictures) != 25 {
		t.Fatal(len(want), len(pictures))
	}
	l := slices.Clone(extremes)
	for op := -600; op <= 70000; op++ {
		l = append(l, op)
	}
	for op := range want {
		l = append(l, op-256, op+256, op+1<<32, op+math.MinInt, -op)
	}
	for _, op := range l {
		x, is := want[op]
		if cdb.Known(op) != is || cdb.Size(op) != x[0] || cdb.Class(op) != x[1] {
			t.Errorf("%x: %v %d %d, want %v %d", op, cdb.Known(op), cdb.Size(op), cdb.Class(op), is, x)
		}
		if is && len(lead(op)) != x[0] {
			t.Errorf("the picture of %x has %d bytes", op, len(lead(op)))
		}
	}
}

// P6.1: commands of each kind, and what their bytes say, written out.
func TestParseTold(t *testing.T) {
	for _, x := range []struct {
		b []byte
		c api.Command
	}{
		{[]byte{0x28, 0, 0, 0, 0, 5, 0, 0, 3, 0}, api.Command{Op: api.Read10, At: 5, N: 3}}, // the chapter's example
		{[]byte{0, 0, 0, 0, 0, 0}, api.Command{Op: api.TestReady}},
		{[]byte{0, 255, 255, 255, 255, 0}, api.Command{Op: api.TestReady}},
		{[]byte{3, 0xfe, 9, 9, 0, 0}, api.Command{Op: api.RequestSense}},
		{[]byte{3, 0, 0, 0, 255, 0}, api.Command{Op: api.RequestSense, N: 255}},
		{[]byte{8, 0, 0, 0, 0, 0}, api.Command{Op: api.Read6, N: 256}},
		{[]byte{8, 0, 0, 0, 1, 0}, api.Command{Op: api.Read6, N: 1}},
		{[]byte{8, 0, 0, 0, 255, 0}, api.Command{Op: api.Read6, N: 255}},
		{[]byte{8, 0xe0, 0, 7, 2, 0}, api.Command{Op: api.Read6, At: 7, N: 2}},
		{[]byte{8, 0xff, 0xff, 0xff, 2, 0}, api.Command{Op: api.Read6, At: 0x1fffff, N: 2}},
		{[]byte{10, 0x12, 0x34, 0x56, 0, 0}, api.Command{Op: api.Write6, At: 0x123456, N: 256}},
		{[]byte{10, 0x32, 0x34, 0x56, 1, 0}, api.Command{Op: api.Write6, At: 0x123456, N: 1}},
		{[]byte{10, 0x92, 0x34, 0x56, 255, 0}, api.Command{Op: api.Write6, At: 0x123456, N: 255}},
		{[]byte{0x12, 0, 0, 0, 0, 0}, api.Command{Op: api.Inquiry}},
		{[]byte{0x12, 0xfe, 0, 1, 2, 0}, api.Command{Op: api.Inquiry, N: 258}},
		{[]byte{0x12, 1, 0, 0, 36, 0}, api.Command{Op: api.Inquiry, N: 36, Bits: 1}},
		{[]byte{0x12, 0xff, 0xff, 0xff, 0xff, 0}, api.Command{Op: api.Inquiry, N: 65535, Page: 255, Bits: 1}},
		{[]byte{0x15, 0x10, 0, 0, 0, 0}, api.Command{Op: api.ModeSelect6}},
		{[]byte{0x15, 0xfe, 9, 9, 255, 0}, api.Command{Op: api.ModeSelect6, N: 255}},
		{[]byte{0x55, 0xfe, 9, 9, 9, 9, 9, 1, 2, 0}, api.Command{Op: api.ModeSelect10, N: 258}},
		{[]byte{0x1a, 0xff, 0x7f, 0, 4, 0}, api.Command{Op: api.ModeSense6, N: 4, Page: 63, Bits: 1}},
		{[]byte{0x1a, 0, 0xc8, 0, 4, 0}, api.Command{Op: api.ModeSense6, N: 4, Page: 8, Bits: 3}},
		{[]byte{0x5a, 0xff, 0x88, 0, 9, 9, 9, 1, 2, 0}, api.Command{Op: api.ModeSense10, N: 258, Page: 8, Bits: 2}},
		{[]byte{0x1b, 9, 9, 9, 0, 0}, api.Command{Op: api.StartStop}},
		{[]byte{0x1b, 9, 9, 9, 0x0e, 0}, api.Command{Op: api.StartStop, Bits: 2}},
		{[]byte{0x1b, 0, 0, 0, 0x0f, 0}, api.Command{Op: api.StartStop, Bits: 3}},
		{[]byte{0x1e, 9, 9, 9, 0, 0}, api.Command{Op: api.Prevent}},
		{[]byte{0x1e, 9, 9, 9, 1, 0}, api.Command{Op: api.Prevent, Bits: 1}},
		{[]byte{0x1e, 0, 0, 0, 0xfd, 0}, api.Command{Op: api.Prevent, Bits: 1}},
		{[]byte{0x25, 255, 0, 0, 0, 0, 255, 255, 0xfe, 0}, api.Command{Op: api.Capacity10}},
		{[]byte{0x9e, 0x10, 0, 0, 0, 0, 0, 0, 0, 0, 0, 0, 0, 0, 0, 0}, api.Command{Op: api.Capacity16}},
		{[]byte{0x9e, 0xf0, 9, 9, 9, 9, 9, 9, 9, 9, 1, 2, 3, 4, 9, 0}, api.Command{Op: api.Capacity16, N: 0x01020304}},
		{[]byte{0x28, 0x08, 1, 2, 3, 4, 9, 5, 6, 0}, api.Command{Op: api.Read10, At: 0x01020304, N: 0x0506, Bits: 1}},
		{[]byte{0x2a, 0xf7, 255, 255, 255, 255, 9, 255, 255, 0}, api.Command{Op: api.Write10, At: math.MaxUint32, N: 65535}},
		{[]byte{0xa8, 0x08, 1, 2, 3, 4, 5, 6, 7, 8, 9, 0}, api.Command{Op: api.Read12, At: 0x01020304, N: 0x05060708, Bits: 1}},
		{[]byte{0xaa, 0, 255, 255, 255, 255, 255, 255, 255, 255, 9, 0}, api.Command{Op: api.Write12, At: math.MaxUint32, N: math.MaxUint32}},
		{[]byte{0x88, 0x08, 1, 2, 3, 4, 5, 6, 7, 8, 9, 10, 11, 12, 13, 0}, api.Command{Op: api.Read16, At: 0x0102030405060708, N: 0x090a0b0c, Bits: 1}},
		{[]byte{0x8a, 0, 255, 255, 255, 255, 255, 255, 255, 255, 255, 255, 255, 255, 9, 0}, api.Command{Op: api.Write16, At: math.MaxUint64, N: math.MaxUint32}},
		{[]byte{0x2f, 0xfb, 0, 0, 0, 1, 9, 0, 2, 0}, api.Command{Op: api.Verify10, At: 1, N: 2, Bits: 1}},
		{[]byte{0x2f, 0xf9, 0, 0, 0, 1, 9, 0, 2, 0}, api.Command{Op: api.Verify10, At: 1, N: 2}},
		{[]byte{0xaf, 2, 0, 0, 0, 1, 0, 1, 0, 0, 9, 0}, api.Command{Op: api.Verify12, At: 1, N: 65536, Bits: 1}},
		{[]byte{0x8f, 2, 128, 0, 0, 0, 0, 0, 0, 1, 128, 0, 0, 1, 9, 0}, api.Command{Op: api.Verify16, At: 1<<63 + 1, N: 1<<31 + 1, Bits: 1}},
		{[]byte{0x35, 255, 1, 0, 0, 2, 9, 3, 4, 0}, api.Command{Op: api.Synchronize10, At: 1<<24 + 2, N: 0x0304}},
		{[]byte{0x91, 255, 1, 0, 0, 0, 0, 0, 0, 2, 0, 0, 3, 4, 9, 0}, api.Command{Op: api.Synchronize16, At: 1<<56 + 2, N: 0x0304}},
		{[]byte{0xa0, 255, 0, 9, 9, 9, 0, 0, 0, 16, 9, 0}, api.Command{Op: api.ReportLuns, N: 16}},
		{[]byte{0xa0, 0, 2, 0, 0, 0, 255, 255, 255, 255, 0, 0}, api.Command{Op: api.ReportLuns, N: math.MaxUint32}},
	} {
		if c, s := cdb.Parse(x.b); c != x.c || s != good {
			t.Errorf("% x: %+v %x, want %+v", x.b, c, s, x.c)
		}
		checkParse(t, x.b)
		checkBytes(t, x.c)
	}
}

// P6.1: what isn't as it must be is told Field, and no command, written out.
func TestParseField(t *testing.T) {
	for _, b := range [][]byte{
		{3, 1, 0, 0, 18, 0},
		{0x12, 0, 1, 0, 36, 0}, {0x12, 0, 0x80, 0, 36, 0}, {0x12, 0xfe, 0xff, 0, 36, 0},
		{0x15, 0, 0, 0, 24, 0}, {0x15, 0x11, 0, 0, 24, 0}, {0x15, 0xef, 0, 0, 24, 0},
		{0x55, 0, 0, 0, 0, 0, 0, 0, 9, 0}, {0x55, 0x11, 0, 0, 0, 0, 0, 0, 9, 0},
		{0x1a, 0, 8, 1, 9, 0}, {0x1a, 0, 8, 128, 9, 0}, {0x5a, 0, 8, 255, 0, 0, 0, 0, 9, 0},
		{0x1b, 0, 0, 0, 0x10, 0}, {0x1b, 0, 0, 0, 0x83, 0}, {0x1b, 0, 0, 0, 0xf0, 0},
		{0x1e, 0, 0, 0, 2, 0}, {0x1e, 0, 0, 0, 3, 0}, {0x1e, 0, 0, 0, 0xff, 0},
		{0x25, 0, 1, 0, 0, 0, 0, 0, 0, 0}, {0x25, 0, 0, 1, 0, 0, 0, 0, 0, 0}, {0x25, 0, 0, 0, 1, 0, 0, 0, 0, 0}, {0x25, 0, 0, 0, 0, 1, 0, 0, 0, 0}, {0x25, 0, 0, 0, 0, 0, 0, 0, 1, 0},
		{0x9e, 0, 0, 0, 0, 0, 0, 0, 0, 0, 0, 0, 0, 32, 0, 0}, {0x9e, 0x11, 0, 0, 0, 0, 0, 0, 0, 0, 0, 0, 0, 32, 0, 0}, {0x9e, 0x0f, 0, 0, 0, 0, 0, 0, 0, 0, 0, 0, 0, 32, 0, 0},
		{0x2f, 4, 0, 0, 0, 0, 0, 0, 1, 0}, {0x2f, 6, 0, 0, 0, 0, 0, 0, 1, 0}, {0xaf, 4, 0, 0, 0, 0, 0, 0, 0, 1, 0, 0}, {0x8f, 4, 0, 0, 0, 0, 0, 0, 0, 0, 0, 0, 0, 1, 0, 0},
		{0xa0, 0, 3, 0, 0, 0, 0, 0, 0, 16, 0, 0}, {0xa0, 0, 128, 0, 0, 0, 0, 0, 0, 16, 0, 0}, {0xa0, 0, 0, 0, 0, 0, 0, 0, 0, 15, 0, 0}, {0xa0, 0, 2, 0, 0, 0, 0, 0, 0, 0, 0, 0},
	} {
		if c, s := cdb.Parse(b); c != (api.Command{}) || s != field {
			t.Errorf("% x: %+v %x", b, c, s)
		}
		checkParse(t, b)
	}
}

// P6.1: no bytes, and a first byte that is no op, are Unknown, however many stand behind it.
func TestParseUnknown(t *testing.T) {
	for _, b := range [][]byte{nil, {}, make([]byte, 0, 6)} {
		if c, s := cdb.Parse(b); c != (api.Command{}) || s != unknown {
			t.Errorf("%v: %+v %x", b, c, s)
		}
	}
	for op := range 256 {
		if pictures[op] != "" {
			continue
		}
		for size := 1; size <= 20; size++ {
			for _, fill := range []byte{0, 1, 255} {
				b := bytes.Repeat([]byte{fill}, size)
				b[0] = byte(op)
				if c, s := cdb.Parse(b); c != (api.Command{}) || s != unknown {
					t.Errorf("% x: %+v %x", b, c, s)
				}
			}
		}
	}
}

// P6.1: of each op one byte too few, and each number below that, is Field; bytes behind the size say nothing, be they 0 or not; the last byte of the size must be 0.
func TestParseSize(t *testing.T) {
	for _, op := range ops() {
		b := lead(op)
		want, _ := parsed(b)
		for n := 1; n < len(b); n++ {
			if c, s := cdb.Parse(b[:n:n]); c != (api.Command{}) || s != field {
				t.Errorf("%x of %d bytes: %+v %x", op, n, c, s)
			}
		}
		for _, more := range [][]byte{nil, {0}, {1}, {255, 255, 255}, bytes.Repeat(b, 3)} {
			if c, s := cdb.Parse(append(slices.Clone(b), more...)); c != want || s != good {
				t.Errorf("%x and % x: %+v %x", op, more, c, s)
			}
		}
		for last := 1; last < 256; last++ {
			bad := set(b, len(b)-1, byte(last))
			if c, s := cdb.Parse(bad); c != (api.Command{}) || s != field {
				t.Errorf("% x: %+v %x", bad, c, s)
			}
			if c, s := cdb.Parse(append(bad, 0)); c != (api.Command{}) || s != field {
				t.Errorf("% x, and 0: %+v %x", bad, c, s)
			}
		}
	}
}

// fill is an op's bytes, where the picture's bits that needn't be are what the function says.
func fill(op int, is func(kind byte, nth int) bool) []byte {
	p := picture(op)
	b := lead(op)
	seen := map[byte]int{}
	for i := len(p) - 1; i >= 0; i-- {
		if p[i] == '0' || p[i] == '1' {
			continue
		}
		at, mask := bitAt(i)
		b[at] &^= mask
		if is(p[i], seen[p[i]]) {
			b[at] |= mask
		}
		seen[p[i]]++
	}
	return b
}

// P6.1: each field with all bits 0, all bits 1, and one bit, beside others that are 0 or 1; bits that may be anything, likewise.
func TestParseFields(t *testing.T) {
	for _, op := range ops() {
		kinds := map[byte]int{}
		for _, k := range []byte(picture(op)) {
			kinds[k]++
		}
		for _, others := range []bool{false, true} {
			checkParse(t, fill(op, func(byte, int) bool { return others }))
			for kind, count := range kinds {
				for _, all := range []bool{false, true} {
					checkParse(t, fill(op, func(k byte, _ int) bool {
						if k == kind {
							return all
						}
						return others
					}))
				}
				for one := range count {
					checkParse(t, fill(op, func(k byte, nth int) bool {
						if k == kind {
							return nth == one
						}
						return others
					}))
				}
			}
		}
	}
}

// P6.1: each byte of each op with each value, beside others that are 0 or anything.
func TestParseEachByte(t *testing.T) {
	r := rand.New(rand.NewPCG(6, 1))
	for _, op := range ops() {
		for _, base := range [][]byte{lead(op), fill(op, func(byte, int) bool { return true }), fill(op, func(byte, int) bool { return r.IntN(2) == 0 })} {
			for at := range base {
				for x := range 256 {
					checkParse(t, set(base, at, byte(x)))
				}
			}
		}
	}
}

// P6.1: what each bit that must be is, and one bit otherwise; told by the pictures alone.
func TestParseMust(t *testing.T) {
	for _, op := range ops() {
		p := picture(op)
		b := lead(op)
		if _, s := cdb.Parse(b); s != good {
			t.Fatalf("% x: %x", b, s)
		}
		for i := range p {
			at, mask := bitAt(i)
			if p[i] != '0' && p[i] != '1' {
				continue
			}
			if c, s := cdb.Parse(set(b, at, b[at]^mask)); c != (api.Command{}) || s != field {
				t.Errorf("% x: %+v %x", set(b, at, b[at]^mask), c, s)
			}
		}
	}
}

// P6.1 and P6.2: any bytes are parsed as said; what is parsed has bytes that are parsed as the same.
func TestParseAny(t *testing.T) {
	r := rand.New(rand.NewPCG(6, 2))
	all := ops()
	goods := 0
	for range 60000 {
		op := all[r.IntN(len(all))]
		b := fill(op, func(byte, int) bool { return r.IntN(2) == 0 })
		switch r.IntN(4) {
		case 0:
			at := r.IntN(len(b))
			b[at] ^= 1 << r.IntN(8)
		case 1:
			for i := range b {
				b[i] = byte(r.Uint32())
			}
			b[0] = byte(op)
			if r.IntN(2) == 0 {
				b[len(b)-1] = 0
			}
		}
		b = b[:len(b)-r.IntN(8)/7]
		checkParse(t, b)
		c, s := cdb.Parse(b)
		if s != good {
			continue
		}
		goods++
		own, ok := cdb.Bytes(c)
		if back, s := cdb.Parse(own); !ok || back != c || s != good {
			t.Fatalf("% x: %+v, % x %v, %+v %x", b, c, own, ok, back, s)
		}
		checkBytes(t, c)
	}
	if goods < 15000 {
		t.Error("few are good:", goods)
	}
}

// P6.1: bytes of commands, written out: all that says nothing is 0, but bit 4 of b1 of ModeSelect, and Capacity16's 16.
func TestBytesTold(t *testing.T) {
	for _, x := range []struct {
		c api.Command
		b []byte
	}{
		{api.Command{}, []byte{0, 0, 0, 0, 0, 0}},
		{api.Command{Op: api.RequestSense, N: 18}, []byte{3, 0, 0, 0, 18, 0}},
		{api.Command{Op: api.Read6, At: 0x1fffff, N: 256}, []byte{8, 0x1f, 255, 255, 0, 0}},
		{api.Command{Op: api.Read6, N: 1}, []byte{8, 0, 0, 0, 1, 0}},
		{api.Command{Op: api.Write6, At: 0x012345, N: 255}, []byte{10, 1, 0x23, 0x45, 255, 0}},
		{api.Command{Op: api.Inquiry, N: 65535}, []byte{0x12, 0, 0, 255, 255, 0}},
		{api.Command{Op: api.Inquiry, N: 258, Page: 255, Bits: 1}, []byte{0x12, 1, 255, 1, 2, 0}},
		{api.Command{Op: api.ModeSelect6, N: 255}, []byte{0x15, 0x10, 0, 0, 255, 0}},
		{api.Command{Op: api.ModeSelect6}, []byte{0x15, 0x10, 0, 0, 0, 0}},
		{api.Command{Op: api.ModeSelect10, N: 258}, []byte{0x55, 0x10, 0, 0, 0, 0, 0, 1, 2, 0}},
		{api.Command{Op: api.ModeSense6, N: 4, Page: 63, Bits: 2}, []byte{0x1a, 0, 0xbf, 0, 4, 0}},
		{api.Command{Op: api.ModeSense10, N: 258, Page: 8, Bits: 3}, []byte{0x5a, 0, 0xc8, 0, 0, 0, 0, 1, 2, 0}},
		{api.Command{Op: api.StartStop, Bits: 3}, []byte{0x1b, 0, 0, 0, 3, 0}},
		{api.Command{Op: api.Prevent, Bits: 1}, []byte{0x1e, 0, 0, 0, 1, 0}},
		{api.Command{Op: api.Capacity10}, []byte{0x25, 0, 0, 0, 0, 0, 0, 0, 0, 0}},
		{api.Command{Op: api.Capacity16, N: 0x01020304}, []byte{0x9e, 0x10, 0, 0, 0, 0, 0, 0, 0, 0, 1, 2, 3, 4, 0, 0}},
		{api.Command{Op: api.Read10, At: 5, N: 3}, []byte{0x28, 0, 0, 0, 0, 5, 0, 0, 3, 0}},
		{api.Command{Op: api.Write10, At: 0x01020304, N: 0x0506, Bits: 1}, []byte{0x2a, 8, 1, 2, 3, 4, 0, 5, 6, 0}},
		{api.Command{Op: api.Read12, At: 0x01020304, N: 0x05060708, Bits: 1}, []byte{0xa8, 8, 1, 2, 3, 4, 5, 6, 7, 8, 0, 0}},
		{api.Command{Op: api.Write12, N: math.MaxUint32}, []byte{0xaa, 0, 0, 0, 0, 0, 255, 255, 255, 255, 0, 0}},
		{api.Command{Op: api.Read16, At: math.MaxUint64, N: 1, Bits: 1}, []byte{0x88, 8, 255, 255, 255, 255, 255, 255, 255, 255, 0, 0, 0, 1, 0, 0}},
		{api.Command{Op: api.Write16, At: 0x0102030405060708, N: 0x090a0b0c}, []byte{0x8a, 0, 1, 2, 3, 4, 5, 6, 7, 8, 9, 10, 11, 12, 0, 0}},
		{api.Command{Op: api.Verify10, At: 1, N: 2, Bits: 1}, []byte{0x2f, 2, 0, 0, 0, 1, 0, 0, 2, 0}},
		{api.Command{Op: api.Verify12, At: 1, N: 2, Bits: 1}, []byte{0xaf, 2, 0, 0, 0, 1, 0, 0, 0, 2, 0, 0}},
		{api.Command{Op: api.Verify16, At: 1, N: 2, Bits: 1}, []byte{0x8f, 2, 0, 0, 0, 0, 0, 0, 0, 1, 0, 0, 0, 2, 0, 0}},
		{api.Command{Op: api.Synchronize10, At: 1, N: 2}, []byte{0x35, 0, 0, 0, 0, 1, 0, 0, 2, 0}},
		{api.Command{Op: api.Synchronize16, At: 1, N: 2}, []byte{0x91, 0, 0, 0, 0, 0, 0, 0, 0, 1, 0, 0, 0, 2, 0, 0}},
		{api.Command{Op: api.ReportLuns, N: 16}, []byte{0xa0, 0, 0, 0, 0, 0, 0, 0, 0, 16, 0, 0}},
		{api.Command{Op: api.ReportLuns, N: 1 << 24}, []byte{0xa0, 0, 0, 0, 0, 0, 1, 0, 0, 0, 0, 0}},
	} {
		if b, ok := cdb.Bytes(x.c); !ok || !bytes.Equal(b, x.b) {
			t.Errorf("%+v: % x %v, want % x", x.c, b, ok, x.b)
		}
		checkBytes(t, x.c)
	}
}

// P6.1: none and false where no bytes say it, written out.
func TestBytesNone(t *testing.T) {
	for _, c := range []api.Command{
		{Op: 1}, {Op: -1}, {Op: 255}, {Op: 256}, {Op: 0x128, N: 1}, {Op: math.MinInt}, {Op: math.MaxInt}, {Op: 1<<32 + 0x28},
		{Op: api.TestReady, At: 1}, {Op: api.TestReady, N: 1}, {Op: api.TestReady, Page: 1}, {Op: api.TestReady, Bits: 1}, {Op: api.TestReady, N: -1},
		{Op: api.RequestSense, N: 256}, {Op: api.RequestSense, N: -1}, {Op: api.RequestSense, At: 1}, {Op: api.RequestSense, Page: 1}, {Op: api.RequestSense, Bits: 1},
		{Op: api.Read6}, {Op: api.Write6}, {Op: api.Read6, N: 257}, {Op: api.Write6, N: 512}, {Op: api.Read6, N: -256}, {Op: api.Read6, N: -1}, {Op: api.Read6, N: 1<<32 + 256},
		{Op: api.Read6, At: 1 << 21, N: 1}, {Op: api.Write6, At: math.MaxUint64, N: 1}, {Op: api.Read6, N: 1, Bits: 1}, {Op: api.Write6, N: 1, Page: 1},
		{Op: api.Inquiry, Page: 1}, {Op: api.Inquiry, Page: 256, Bits: 1}, {Op: api.Inquiry, Page: -1, Bits: 1}, {Op: api.Inquiry, Bits: 2}, {Op: api.Inquiry, Bits: -1}, {Op: api.Inquiry, Bits: 3, Page: 1}, {Op: api.Inquiry, N: 65536}, {Op: api.Inquiry, At: 1},
		{Op: api.ModeSelect6, N: 256}, {Op: api.ModeSelect6, Bits: 1}, {Op: api.ModeSelect6, Page: 1}, {Op: api.ModeSelect10, N: 65536}, {Op: api.ModeSelect10, At: 1},
		{Op: api.ModeSense6, N: 256}, {Op: api.ModeSense6, Page: 64}, {Op: api.ModeSense6, Bits: 4}, {Op: api.ModeSense10, N: 65536}, {Op: api.ModeSense10, Page: -1}, {Op: api.ModeSense10, Bits: -1}, {Op: api.ModeSense10, At: 1},
		{Op: api.StartStop, Bits: 4}, {Op: api.StartStop, N: 1}, {Op: api.StartStop, Bits: -1}, {Op: api.Prevent, Bits: 2}, {Op: api.Prevent, Bits: 3}, {Op: api.Prevent, Bits: 4}, {Op: api.Prevent, Bits: 5},
		{Op: api.Capacity10, At: 1}, {Op: api.Capacity10, N: 1}, {Op: api.Capacity10, Page: 1}, {Op: api.Capacity10, Bits: 1}, {Op: api.Capacity16, N: 1 << 32}, {Op: api.Capacity16, N: -1}, {Op: api.Capacity16, At: 1}, {Op: api.Capacity16, Bits: 16},
		{Op: api.Read10, At: 1 << 32}, {Op: api.Read10, N: 65536}, {Op: api.Read10, N: -1}, {Op: api.Read10, Bits: 2}, {Op: api.Read10, Bits: -1}, {Op: api.Read10, Page: 1},
		{Op: api.Write12, At: 1 << 32}, {Op: api.Write12, N: 1 << 32}, {Op: api.Write12, N: math.MinInt}, {Op: api.Read16, N: 1 << 32}, {Op: api.Read16, N: math.MaxInt}, {Op: api.Read16, Bits: 2},
		{Op: api.Verify10, Bits: 2}, {Op: api.Verify12, Bits: 3}, {Op: api.Verify16, Bits: 4}, {Op: api.Verify16, N: 1 << 32},
		{Op: api.Synchronize10, Bits: 1}, {Op: api.Synchronize16, Bits: 1}, {Op: api.Synchronize10, N: 65536}, {Op: api.Synchronize16, N: -1},
		{Op: api.ReportLuns}, {Op: api.ReportLuns, N: 15}, {Op: api.ReportLuns, N: -16}, {Op: api.ReportLuns, N: 1<<32 + 16}, {Op: api.ReportLuns, N: 1 << 32}, {Op: api.ReportLuns, N: 16, Page: 1},
	} {
		if b, ok := cdb.Bytes(c); ok || len(b) != 0 {
			t.Errorf("%+v: % x %v", c, b, ok)
		}
		checkBytes(t, c)
	}
}

// numbers are the edges of each width: below it, the greatest, one more, and one bit; and the extremes.
func numbers() []int {
	l := append(slices.Clone(extremes), -257, -256, -255, -2, -1, 0, 1, 2, 3, 4, 5, 15, 16, 17, 18, 36)
	for bits := range 63 {
		l = append(l, 1<<bits-1, 1<<bits, 1<<bits+1, -1<<bits)
	}
	return l
}

// P6.1 and P6.2: each number of a command at each edge, the others as they are in commands that are good, and all ops, with those that are none.
func TestBytesEdges(t *testing.T) {
	l := numbers()
	for _, op := range append(ops(), -1, 1, 0x29, 255, 256, 0x128, 1<<32+8, math.MinInt, math.MaxInt) {
		for _, n := range []int{0, 1, 16, 256} {
			for _, bits := range []int{0, 1} {
				for _, page := range []int{0, 8} {
					for _, x := range l {
						checkBytes(t, api.Command{Op: op, At: uint64(x), N: n, Page: page, Bits: bits})
						checkBytes(t, api.Command{Op: op, At: 0, N: x, Page: page, Bits: bits})
						checkBytes(t, api.Command{Op: op, At: 0, N: n, Page: x, Bits: bits})
						checkBytes(t, api.Command{Op: op, At: 0, N: n, Page: page, Bits: x})
					}
				}
			}
		}
	}
}

// P6.2: any command's bytes, if there are any, are parsed as it, with bytes behind them too.
func TestThereAndBack(t *testing.T) {
	r := rand.New(rand.NewPCG(6, 3))
	all := ops()
	l := numbers()
	said := map[int]int{}
	for range 100000 {
		c := api.Command{Op: all[r.IntN(len(all))]}
		if r.IntN(3) > 0 {
			c.At = r.Uint64() >> r.IntN(65)
		}
		if r.IntN(4) > 0 {
			c.N = int(r.Uint32() >> r.IntN(33))
		}
		if r.IntN(3) == 0 {
			c.Page = r.IntN(300)
		}
		if r.IntN(2) == 0 {
			c.Bits = r.IntN(5)
		}
		switch r.IntN(12) {
		case 0:
			c.At = uint64(l[r.IntN(len(l))])
		case 1:
			c.N = l[r.IntN(len(l))]
		case 2:
			c.Page = l[r.IntN(len(l))]
		case 3:
			c.Bits = l[r.IntN(len(l))]
		}
		checkBytes(t, c)
		b, ok := cdb.Bytes(c)
		if !ok {
			continue
		}
		said[c.Op]++
		if back, s := cdb.Parse(append(b, byte(r.Uint32()), 1)); back != c || s != good {
			t.Fatalf("%+v: % x, %+v %x", c, b, back, s)
		}
	}
	for _, op := range all {
		if said[op] < 10 {
			t.Errorf("%x was said %d times", op, said[op])
		}
	}
}

// P6.1: what was handed in, its spare room too, is as it was behind each call, and nothing of it hangs on that room.
func TestParseStays(t *testing.T) {
	for _, op := range ops() {
		for _, spare := range []byte{0, 255} {
			room := append(fill(op, func(byte, int) bool { return true }), bytes.Repeat([]byte{spare}, 20)...)
			was := slices.Clone(room)
			for n := range room {
				wantC, wantS := parsed(room[:n])
				if c, s := cdb.Parse(room[:n]); c != wantC || s != wantS {
					t.Errorf("% x: %+v %x, want %+v %x", room[:n], c, s, wantC, wantS)
				}
				if !bytes.Equal(room, was) {
					t.Fatalf("%x, %d bytes: % x, was % x", op, n, room, was)
				}
			}
		}
	}
}

// P6.1: what is answered is new memory: who writes into it changes no other answer.
func TestBytesNew(t *testing.T) {
	for _, op := range ops() {
		c, _ := parsed(lead(op))
		a, _ := cdb.Bytes(c)
		b, _ := cdb.Bytes(c)
		want, _ := written(c)
		for i := range a[:cap(a)] {
			a[:cap(a)][i] = 255
		}
		again, ok := cdb.Bytes(c)
		if !ok || !bytes.Equal(b, want) || !bytes.Equal(again, want) {
			t.Errorf("%x: % x, % x, want % x", op, b, again, want)
		}
	}
}
