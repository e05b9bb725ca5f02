package block_test

import (
	"bytes"
	"math"
	"math/big"
	"testing"

	"reticule/api"
	"reticule/block"
)

const size = 64 // bytes of a block, told apart from api's name on purpose

// extremes are whole numbers that wrap round when something is added to them, or taken off.
var extremes = []int{math.MinInt, math.MinInt + 1, math.MinInt + 64, math.MinInt32, math.MaxInt32, math.MaxInt - 64, math.MaxInt - 1, math.MaxInt}

// far are places behind all blocks, those among them that wrap round, or turn below 0, when they are turned into another width.
var far = []uint64{65, 100, math.MaxUint32, 1 << 32, 1<<32 + 1, math.MaxInt64, 1 << 63, 1<<63 + 1, math.MaxUint64 - 64, math.MaxUint64 - 63, math.MaxUint64 - 1, math.MaxUint64}

// around is the whole numbers from low to high, and the extremes.
func around(low, high int) []int {
	l := append([]int(nil), extremes...)
	for i := low; i <= high; i++ {
		l = append(l, i)
	}
	return l
}

// places is the places from 0 to high, and those far off.
func places(high int) []uint64 {
	l := append([]uint64(nil), far...)
	for i := 0; i <= high; i++ {
		l = append(l, uint64(i))
	}
	return l
}

// some is n bytes that differ from place to place, and from seed to seed.
func some(n, seed int) []byte {
	b := make([]byte, n)
	for i := range b {
		b[i] = byte(i*7 + i/size*31 + seed*101 + 1)
	}
	return b
}

// store is the blocks of bytes that are whole ones.
func store(b []byte) []api.Block {
	l := make([]api.Block, len(b)/size)
	for i := range b {
		l[i/size][i%size] = b[i]
	}
	return l
}

// flat is the bytes of blocks, one behind the other.
func flat(l []api.Block) []byte {
	b := make([]byte, len(l)*size)
	for i := range b {
		b[i] = l[i/size][i%size]
	}
	return b
}

// there says by numbers of any length whether there are such blocks.
func there(count int, at uint64, n int) bool {
	end := new(big.Int).SetUint64(at)
	end.Add(end, big.NewInt(int64(n)))
	return n >= 0 && end.Cmp(big.NewInt(int64(count))) <= 0
}

// P2.1: just so many blocks, each byte the one; else none, and an error.
func TestMake(t *testing.T) {
	for _, fill := range []byte{0, 1, 0x5a, 0x80, 0xff} {
		for _, n := range around(-3, 70) {
			l, e := block.Make(n, fill)
			if n < 0 || n > 64 {
				if len(l) != 0 || e != api.ErrArg {
					t.Errorf("%d blocks: %d of them, %d", n, len(l), e)
				}
				continue
			}
			if e != api.OK || !bytes.Equal(flat(l), bytes.Repeat([]byte{fill}, n*size)) {
				t.Errorf("%d blocks of %d: %d of them, %d", n, fill, len(l), e)
			}
		}
	}
}

// P2.1: the numbers that the chapter names, written out.
func TestMakeEdges(t *testing.T) {
	for _, c := range []struct {
		n, want int
		e       api.Errno
	}{{0, 0, api.OK}, {1, 1, api.OK}, {63, 63, api.OK}, {64, 64, api.OK}, {65, 0, api.ErrArg}, {-1, 0, api.ErrArg}, {math.MaxInt, 0, api.ErrArg}, {math.MinInt, 0, api.ErrArg}} {
		if l, e := block.Make(c.n, 9); len(l) != c.want || e != c.e {
			t.Errorf("%d: %d blocks, %d", c.n, len(l), e)
		}
	}
	if api.BlockSize != 64 || api.MaxBlocks != 64 {
		t.Error(api.BlockSize, api.MaxBlocks)
	}
}

// P2.1: Within, of all counts, those that no store has too.
func TestWithin(t *testing.T) {
	for _, count := range around(-3, 67) {
		for _, n := range around(-3, 67) {
			for _, at := range places(67) {
				if got := block.Within(count, at, n); got != there(count, at, n) {
					t.Errorf("%d from %d on, of %d: %v", n, at, count, got)
				}
			}
		}
	}
}

// P2.1: the cases that the chapter names, written out.
func TestWithinEdges(t *testing.T) {
	for _, c := range []struct {
		name  string
		count int
		at    uint64
		n     int
		want  bool
	}{
		{"none of none", 0, 0, 0, true},
		{"one of none", 0, 0, 1, false},
		{"none behind none", 0, 1, 0, false},
		{"all", 5, 0, 5, true},
		{"one more than all", 5, 0, 6, false},
		{"to the end", 5, 3, 2, true},
		{"one behind the end", 5, 4, 2, false},
		{"none at the end", 5, 5, 0, true},
		{"one at the end", 5, 5, 1, false},
		{"none behind the end", 5, 6, 0, false},
		{"n below 0", 5, 0, -1, false},
		{"n below 0, so that at fits", 5, 6, -1, false},
		{"n the least", 5, 0, math.MinInt, false},
		{"n the greatest", 5, 1, math.MaxInt, false},
		{"at the greatest", 5, math.MaxUint64, 0, false},
		{"at the greatest, and one", 5, math.MaxUint64, 1, false},
		{"at and n the greatest", 5, math.MaxUint64, math.MaxInt, false},
		{"at, of 64 bits, and n make 0", 5, 1<<64 - 4, 4, false},
		{"at's lower half fits", 5, 1<<32 + 1, 1, false},
		{"more than a store has", 100, 90, 10, true},
		{"the greatest count", math.MaxInt, math.MaxInt - 1, 1, true},
		{"all of the greatest count", math.MaxInt, 0, math.MaxInt, true},
		{"one behind the greatest count", math.MaxInt, math.MaxInt, 1, false},
		{"count below 0", -1, 0, 0, false},
		{"count below 0, at the greatest", -1, math.MaxUint64, 0, false},
		{"count the least", math.MinInt, 0, 1, false},
		{"count the least, n the greatest", math.MinInt, 0, math.MaxInt, false},
	} {
		if got := block.Within(c.count, c.at, c.n); got != c.want {
			t.Errorf("%s: %v", c.name, got)
		}
	}
}

// P2.1: Read, of stores of all lengths that may be, and of one that is too long.
func TestRead(t *testing.T) {
	for _, count := range []int{0, 1, 2, 5, 63, 64, 65, 66, 200} {
		whole := some(count*size, 1)
		l := store(whole)
		for _, at := range places(66) {
			for _, n := range around(-2, 66) {
				var want []byte
				wrong := api.OK
				switch {
				case count > 64:
					wrong = api.ErrLong
				case !there(count, at, n):
					wrong = api.ErrRange
				default:
					want = whole[int(at)*size : (int(at)+n)*size]
				}
				if b, e := block.Read(l, at, n); e != wrong || !bytes.Equal(b, want) {
					t.Fatalf("%d from %d on, of %d: %d bytes, %d, want %d, %d", n, at, count, len(b), e, len(want), wrong)
				}
			}
		}
	}
}

// wanted is the store that Write must answer, and its error.
func wanted(whole []byte, at uint64, b []byte) ([]byte, api.Errno) {
	switch {
	case len(whole)/size > 64:
		return nil, api.ErrLong
	case len(b)%size != 0:
		return nil, api.ErrForm
	case !there(len(whole)/size, at, len(b)/size):
		return nil, api.ErrRange
	}
	after := bytes.Clone(whole)
	copy(after[int(at)*size:], b)
	return after, api.OK
}

// P2.1: Write, of bytes of all lengths around the edges.
func TestWrite(t *testing.T) {
	for _, count := range []int{0, 1, 2, 5, 63, 64, 65, 66} {
		whole := some(count*size, 1)
		l := store(whole)
		for _, n := range []int{0, 1, 63, 64, 65, 127, 128, 129, 5*size - 1, 5 * size, 5*size + 1, 6 * size, 63 * size, 64*size - 1, 64 * size, 64*size + 1, 65 * size, 70 * size} {
			b := some(n, 2)
			for _, at := range places(66) {
				want, wrong := wanted(whole, at, b)
				m, e := block.Write(l, at, b)
				if e != wrong || !bytes.Equal(flat(m), want) {
					t.Fatalf("%d bytes from %d on, of %d: %d blocks, %d, want %d", n, at, count, len(m), e, wrong)
				}
			}
		}
	}
}

// P2.1: the cases that the chapter names, written out; the error that is named first is told.
func TestWriteEdges(t *testing.T) {
	full, over := make([]api.Block, 64), make([]api.Block, 65)
	for _, c := range []struct {
		name string
		l    []api.Block
		at   uint64
		n    int // bytes
		want api.Errno
	}{
		{"all", full, 0, 64 * 64, api.OK},
		{"one block too many", full, 0, 65 * 64, api.ErrRange},
		{"one block less", full, 0, 63 * 64, api.OK},
		{"to the end", full, 62, 128, api.OK},
		{"one behind the end", full, 63, 128, api.ErrRange},
		{"one short of the end", full, 61, 128, api.OK},
		{"none at the end", full, 64, 0, api.OK},
		{"none behind the end", full, 65, 0, api.ErrRange},
		{"one at the end", full, 64, 64, api.ErrRange},
		{"at the greatest", full, math.MaxUint64, 64, api.ErrRange},
		{"none, at the greatest", full, math.MaxUint64, 0, api.ErrRange},
		{"one byte", full, 0, 1, api.ErrForm},
		{"63 bytes", full, 0, 63, api.ErrForm},
		{"65 bytes", full, 0, 65, api.ErrForm},
		{"no whole blocks, nor there", full, 65, 65, api.ErrForm},
		{"no whole blocks, at the greatest", full, math.MaxUint64, 63, api.ErrForm},
		{"more than there is room for, and a byte", full, 0, 65*64 + 1, api.ErrForm},
		{"none into none", nil, 0, 0, api.OK},
		{"one into none", nil, 0, 64, api.ErrRange},
		{"no whole block into none", nil, 0, 63, api.ErrForm},
		{"too long a store", over, 0, 64, api.ErrLong},
		{"too long a store, none", over, 0, 0, api.ErrLong},
		{"too long a store, no whole blocks", over, 0, 63, api.ErrLong},
		{"too long a store, not there", over, 66, 64, api.ErrLong},
		{"too long a store, neither", over, math.MaxUint64, 65, api.ErrLong},
	} {
		m, e := block.Write(c.l, c.at, some(c.n, 3))
		if e != c.want {
			t.Errorf("%s: %d", c.name, e)
		}
		if e == api.OK && len(m) != len(c.l) || e != api.OK && len(m) != 0 {
			t.Errorf("%s: %d blocks", c.name, len(m))
		}
	}
}

// P2.1: the blocks and the rest, one behind the other, are the bytes; the rest is less than a block.
func TestSplit(t *testing.T) {
	for n := 0; n <= 5*size; n++ {
		b := some(n, 4)
		l, rest := block.Split(b)
		if len(l) != n/size || len(rest) != n%size || !bytes.Equal(append(flat(l), rest...), b) {
			t.Errorf("%d bytes: %d blocks, %d bytes", n, len(l), len(rest))
		}
	}
	b := some(1000*size+5, 4)
	if l, rest := block.Split(b); len(l) != 1000 || !bytes.Equal(append(flat(l), rest...), b) {
		t.Errorf("more than a store: %d blocks, %d bytes", len(l), len(rest))
	}
}

// P2.1: the lengths that the chapter names, written out.
func TestSplitEdges(t *testing.T) {
	for _, c := range []struct{ n, blocks, rest int }{{0, 0, 0}, {1, 0, 1}, {63, 0, 63}, {64, 1, 0}, {65, 1, 1}, {100, 1, 36}, {127, 1, 63}, {128, 2, 0}} {
		if l, rest := block.Split(make([]byte, c.n, 300)); len(l) != c.blocks || len(rest) != c.rest {
			t.Errorf("%d bytes: %d blocks, %d bytes", c.n, len(l), len(rest))
		}
	}
	if l, rest := block.Split(nil); len(l) != 0 || len(rest) != 0 {
		t.Error("no bytes", l, rest)
	}
}

// P2.1: Same; one byte, wherever it is, makes a difference.
func TestSame(t *testing.T) {
	for _, count := range []int{0, 1, 2, 64, 65, 100} {
		a, b := store(some(count*size, 5)), store(some(count*size, 5))
		if !block.Same(a, b) || !block.Same(a, a) {
			t.Error(count, "are the same")
		}
		if longer := append(store(some(count*size, 5)), api.Block{}); block.Same(a, longer) || block.Same(longer, a) {
			t.Error(count, "and one more are not the same")
		}
		for i := range count * size {
			b[i/size][i%size] ^= 1
			if block.Same(a, b) || block.Same(b, a) {
				t.Error(count, "differ at", i)
			}
			b[i/size][i%size] ^= 1
		}
	}
	if !block.Same(nil, []api.Block{}) || !block.Same([]api.Block{}, nil) || !block.Same(nil, nil) {
		t.Error("nothing is the same as nothing")
	}
	if block.Same(nil, make([]api.Block, 1)) || block.Same(make([]api.Block, 1), nil) {
		t.Error("nothing is the same as a block of 0")
	}
	one, two := api.Block{1}, api.Block{2}
	if block.Same([]api.Block{one, two}, []api.Block{two, one}) {
		t.Error("their order counts")
	}
}

// P2.2: what is written is read, and all other blocks stay.
func TestWriteThenRead(t *testing.T) {
	for _, count := range []int{0, 1, 5, 64} {
		l := store(some(count*size, 6))
		for at := 0; at <= count; at++ {
			for n := 0; at+n <= count; n++ {
				b := some(n*size, 7)
				m, e := block.Write(l, uint64(at), b)
				if e != api.OK || len(m) != count {
					t.Fatalf("%d from %d on, of %d: %d blocks, %d", n, at, count, len(m), e)
				}
				if c, e := block.Read(m, uint64(at), n); e != api.OK || !bytes.Equal(c, b) {
					t.Fatalf("%d from %d on, of %d: another one is read, %d", n, at, count, e)
				}
				if !block.Same(m[:at], l[:at]) || !block.Same(m[at+n:], l[at+n:]) {
					t.Fatalf("%d from %d on, of %d: others changed", n, at, count)
				}
			}
		}
	}
}

// P2.2: what is read, and written where it was, changes nothing; what is read is split into the blocks that it was.
func TestReadThenWrite(t *testing.T) {
	l := store(some(64*size, 8))
	for at := 0; at <= 64; at++ {
		for n := 0; at+n <= 64; n++ {
			b, e := block.Read(l, uint64(at), n)
			if e != api.OK {
				t.Fatal(at, n, e)
			}
			if m, e := block.Write(l, uint64(at), b); e != api.OK || !block.Same(m, l) {
				t.Fatal("written", at, n, e)
			}
			if own, rest := block.Split(b); !block.Same(own, l[at:at+n]) || len(rest) != 0 {
				t.Fatal("split", at, n, len(rest))
			}
		}
	}
}

// P2.2: of two writes the last one shows where they meet, each of them where it was alone.
func TestWriteTwice(t *testing.T) {
	made, _ := block.Make(8, 0xee)
	first, second := some(3*size, 9), some(3*size, 10)
	m, _ := block.Write(made, 1, first)
	m, _ = block.Write(m, 3, second)
	want := bytes.Repeat([]byte{0xee}, 8*size)
	copy(want[size:], first)
	copy(want[3*size:], second)
	if b, e := block.Read(m, 0, 8); e != api.OK || !bytes.Equal(b, want) {
		t.Errorf("%x, %d", b, e)
	}
}

// P2.1: what is handed in is as it was behind each call, good or not, its spare room too.
func TestArgumentsStay(t *testing.T) {
	room, others, raw := store(some(70*size, 11)), store(some(70*size, 11)), some(70*size, 12)
	for _, count := range []int{0, 1, 5, 64, 65} {
		for _, n := range []int{0, 1, 2, 5, 6, 64, 65} {
			for _, at := range []uint64{0, 1, 4, 5, 63, 64, 65, math.MaxUint64} {
				block.Read(room[:count], at, n)
				block.Write(room[:count], at, raw[:n])
				block.Write(room[:count], at, raw[:n*size])
				block.Split(raw[:n*size+n])
				block.Same(room[:count], others[:n])
			}
		}
	}
	if !bytes.Equal(flat(room), some(70*size, 11)) || !bytes.Equal(flat(others), some(70*size, 11)) {
		t.Error("blocks changed")
	}
	if !bytes.Equal(raw, some(70*size, 12)) {
		t.Error("bytes changed")
	}
}

// An answer is new memory: who writes into it, or into its spare room, changes neither what was handed in nor the other answers.
func TestAnswersAreNew(t *testing.T) {
	l, raw := store(some(8*size, 13)), some(200, 14)
	b, _ := block.Read(l, 2, 3)
	clear(b[:cap(b)])
	for _, own := range [][]byte{nil, some(2*size, 15)} {
		m, _ := block.Write(l, 1, own)
		clear(m[:cap(m)])
	}
	if !bytes.Equal(flat(l), some(8*size, 13)) {
		t.Error("a store is shared")
	}
	for _, n := range []int{0, 36, 64, 100, 128, 200} {
		own, rest := block.Split(raw[:n])
		was := bytes.Clone(rest)
		clear(own[:cap(own)])
		if !bytes.Equal(rest, was) {
			t.Error("the blocks and the rest are shared", n)
		}
		clear(rest[:cap(rest)])
	}
	if !bytes.Equal(raw, some(200, 14)) {
		t.Error("bytes are shared")
	}
	first, _ := block.Make(3, 4)
	clear(first[:cap(first)])
	if second, _ := block.Make(3, 4); second[2][63] != 4 {
		t.Error("Make keeps its blocks")
	}
}
