package capacity_test

import (
	"bytes"
	"math"
	"math/big"
	"math/rand/v2"
	"slices"
	"strings"
	"testing"

	"reticule/api"
	"reticule/capacity"
	"reticule/inquiry"
	"reticule/number"
)

// extremes are whole numbers that wrap round when something is added to them, or that fit when they are cut.
var extremes = []int{math.MinInt, math.MinInt + 1, math.MinInt + 2, math.MinInt + 4, math.MinInt32, math.MinInt32 - 1, math.MaxInt32, math.MaxInt32 + 1, math.MaxUint32, math.MaxUint32 + 1, 1<<32 + 1, 1<<32 + 2, 1<<32 + 4, 1 << 40, 1<<61 + 1, 1<<62 + 2, math.MaxInt - 1, math.MaxInt}

// around is the whole numbers from low to high, and the extremes.
func around(low, high int) []int {
	l := slices.Clone(extremes)
	for i := low; i <= high; i++ {
		l = append(l, i)
	}
	return l
}

// blockCounts is small numbers of blocks, below 0 too, the extremes, and each power of 2, those of 256 among them, with its neighbours, and less than 0 likewise.
func blockCounts() []int {
	l := around(-600, 600)
	for i := range 63 {
		for near := -2; near <= 2; near++ {
			l = append(l, 1<<i+near, -1<<i+near)
		}
	}
	return l
}

// complement is blocks less 1, worked out without a bound, in so many bytes as two's complement.
func complement(blocks, width int) []byte {
	all := new(big.Int).Lsh(big.NewInt(1), uint(8*width))
	x := new(big.Int).Sub(big.NewInt(int64(blocks)), big.NewInt(1))
	return x.Mod(x, all).FillBytes(make([]byte, width))
}

// begin is the first n bytes, as far as there are.
func begin(s string, n int) string {
	b := ""
	for i := 0; i < len(s) && i < n; i++ {
		b += s[i : i+1]
	}
	return b
}

// ten is what Ten must answer.
func ten(blocks int) string {
	return string(complement(blocks, 4)) + "\x00\x00\x00\x40"
}

// sixteen is what Sixteen must answer, if it isn't cut.
func sixteen(blocks int) string {
	return string(complement(blocks, 8)) + "\x00\x00\x00\x40" + strings.Repeat("\x00", 20)
}

// lists are what Luns must answer of no unit, of one, and so on, if it isn't cut.
var lists = []string{
	"\x00\x00\x00\x00\x00\x00\x00\x00",
	"\x00\x00\x00\x08\x00\x00\x00\x00" +
		"\x00\x00\x00\x00\x00\x00\x00\x00",
	"\x00\x00\x00\x10\x00\x00\x00\x00" +
		"\x00\x00\x00\x00\x00\x00\x00\x00" +
		"\x00\x01\x00\x00\x00\x00\x00\x00",
	"\x00\x00\x00\x18\x00\x00\x00\x00" +
		"\x00\x00\x00\x00\x00\x00\x00\x00" +
		"\x00\x01\x00\x00\x00\x00\x00\x00" +
		"\x00\x02\x00\x00\x00\x00\x00\x00",
	"\x00\x00\x00\x20\x00\x00\x00\x00" +
		"\x00\x00\x00\x00\x00\x00\x00\x00" +
		"\x00\x01\x00\x00\x00\x00\x00\x00" +
		"\x00\x02\x00\x00\x00\x00\x00\x00" +
		"\x00\x03\x00\x00\x00\x00\x00\x00",
}

// list is what Luns must answer, if it isn't cut.
func list(luns int) string {
	if luns < 0 {
		return lists[0]
	}
	if luns > 4 {
		return lists[4]
	}
	return lists[luns]
}

// checkTen holds Ten against ten.
func checkTen(t *testing.T, blocks int) {
	t.Helper()
	if b := capacity.Ten(blocks); string(b) != ten(blocks) {
		t.Errorf("Ten(%d): % x, want % x", blocks, b, ten(blocks))
	}
}

// checkSixteen holds Sixteen against sixteen.
func checkSixteen(t *testing.T, blocks, n int) {
	t.Helper()
	want := begin(sixteen(blocks), n)
	if b := capacity.Sixteen(blocks, n); string(b) != want {
		t.Errorf("Sixteen(%d, %d): % x, want % x", blocks, n, b, want)
	}
}

// checkLuns holds Luns against list.
func checkLuns(t *testing.T, luns, n int) {
	t.Helper()
	want := begin(list(luns), n)
	if b := capacity.Luns(luns, n); string(b) != want {
		t.Errorf("Luns(%d, %d): % x, want % x", luns, n, b, want)
	}
}

// P9.1: Ten, written out: the chapter's example, blocks 1, 0, below 0, 255 to 257, powers of 256 and their neighbours, what four bytes don't hold, the least and the greatest.
func TestTenTold(t *testing.T) {
	for blocks, want := range map[int]string{
		16:                "\x00\x00\x00\x0f\x00\x00\x00\x40", // the chapter's example
		1:                 "\x00\x00\x00\x00\x00\x00\x00\x40",
		2:                 "\x00\x00\x00\x01\x00\x00\x00\x40",
		0:                 "\xff\xff\xff\xff\x00\x00\x00\x40",
		-1:                "\xff\xff\xff\xfe\x00\x00\x00\x40",
		-2:                "\xff\xff\xff\xfd\x00\x00\x00\x40",
		-255:              "\xff\xff\xff\x00\x00\x00\x00\x40",
		-256:              "\xff\xff\xfe\xff\x00\x00\x00\x40",
		64:                "\x00\x00\x00\x3f\x00\x00\x00\x40",
		65:                "\x00\x00\x00\x40\x00\x00\x00\x40",
		255:               "\x00\x00\x00\xfe\x00\x00\x00\x40",
		256:               "\x00\x00\x00\xff\x00\x00\x00\x40",
		257:               "\x00\x00\x01\x00\x00\x00\x00\x40",
		1<<16 - 1:         "\x00\x00\xff\xfe\x00\x00\x00\x40",
		1 << 16:           "\x00\x00\xff\xff\x00\x00\x00\x40",
		1<<16 + 1:         "\x00\x01\x00\x00\x00\x00\x00\x40",
		1<<24 - 1:         "\x00\xff\xff\xfe\x00\x00\x00\x40",
		1 << 24:           "\x00\xff\xff\xff\x00\x00\x00\x40",
		1<<24 + 1:         "\x01\x00\x00\x00\x00\x00\x00\x40",
		0x12345679:        "\x12\x34\x56\x78\x00\x00\x00\x40",
		1 << 31:           "\x7f\xff\xff\xff\x00\x00\x00\x40",
		1<<31 + 1:         "\x80\x00\x00\x00\x00\x00\x00\x40",
		1<<32 - 1:         "\xff\xff\xff\xfe\x00\x00\x00\x40",
		1 << 32:           "\xff\xff\xff\xff\x00\x00\x00\x40",
		1<<32 + 1:         "\x00\x00\x00\x00\x00\x00\x00\x40",
		1<<32 + 2:         "\x00\x00\x00\x01\x00\x00\x00\x40",
		1 << 40:           "\xff\xff\xff\xff\x00\x00\x00\x40",
		1<<56 + 1:         "\x00\x00\x00\x00\x00\x00\x00\x40",
		math.MaxInt:       "\xff\xff\xff\xfe\x00\x00\x00\x40",
		math.MinInt:       "\xff\xff\xff\xff\x00\x00\x00\x40",
		math.MinInt + 1:   "\x00\x00\x00\x00\x00\x00\x00\x40",
		math.MinInt32:     "\x7f\xff\xff\xff\x00\x00\x00\x40",
		math.MinInt32 + 1: "\x80\x00\x00\x00\x00\x00\x00\x40",
		-1<<32 + 1:        "\x00\x00\x00\x00\x00\x00\x00\x40",
	} {
		if b := capacity.Ten(blocks); string(b) != want {
			t.Errorf("%d: % x, want % x", blocks, b, want)
		}
		checkTen(t, blocks)
	}
}

// P9.1: Sixteen's first twelve bytes, written out, and 20 times 0 behind them.
func TestSixteenTold(t *testing.T) {
	for blocks, want := range map[int]string{
		16:                 "\x00\x00\x00\x00\x00\x00\x00\x0f\x00\x00\x00\x40",
		1:                  "\x00\x00\x00\x00\x00\x00\x00\x00\x00\x00\x00\x40",
		2:                  "\x00\x00\x00\x00\x00\x00\x00\x01\x00\x00\x00\x40",
		0:                  "\xff\xff\xff\xff\xff\xff\xff\xff\x00\x00\x00\x40",
		-1:                 "\xff\xff\xff\xff\xff\xff\xff\xfe\x00\x00\x00\x40",
		-255:               "\xff\xff\xff\xff\xff\xff\xff\x00\x00\x00\x00\x40",
		-256:               "\xff\xff\xff\xff\xff\xff\xfe\xff\x00\x00\x00\x40",
		64:                 "\x00\x00\x00\x00\x00\x00\x00\x3f\x00\x00\x00\x40",
		255:                "\x00\x00\x00\x00\x00\x00\x00\xfe\x00\x00\x00\x40",
		256:                "\x00\x00\x00\x00\x00\x00\x00\xff\x00\x00\x00\x40",
		257:                "\x00\x00\x00\x00\x00\x00\x01\x00\x00\x00\x00\x40",
		1<<16 - 1:          "\x00\x00\x00\x00\x00\x00\xff\xfe\x00\x00\x00\x40",
		1 << 16:            "\x00\x00\x00\x00\x00\x00\xff\xff\x00\x00\x00\x40",
		1<<16 + 1:          "\x00\x00\x00\x00\x00\x01\x00\x00\x00\x00\x00\x40",
		1<<24 - 1:          "\x00\x00\x00\x00\x00\xff\xff\xfe\x00\x00\x00\x40",
		1 << 24:            "\x00\x00\x00\x00\x00\xff\xff\xff\x00\x00\x00\x40",
		1<<24 + 1:          "\x00\x00\x00\x00\x01\x00\x00\x00\x00\x00\x00\x40",
		1<<32 - 1:          "\x00\x00\x00\x00\xff\xff\xff\xfe\x00\x00\x00\x40",
		1 << 32:            "\x00\x00\x00\x00\xff\xff\xff\xff\x00\x00\x00\x40",
		1<<32 + 1:          "\x00\x00\x00\x01\x00\x00\x00\x00\x00\x00\x00\x40",
		1<<40 - 1:          "\x00\x00\x00\xff\xff\xff\xff\xfe\x00\x00\x00\x40",
		1 << 40:            "\x00\x00\x00\xff\xff\xff\xff\xff\x00\x00\x00\x40",
		1<<40 + 1:          "\x00\x00\x01\x00\x00\x00\x00\x00\x00\x00\x00\x40",
		1<<48 - 1:          "\x00\x00\xff\xff\xff\xff\xff\xfe\x00\x00\x00\x40",
		1 << 48:            "\x00\x00\xff\xff\xff\xff\xff\xff\x00\x00\x00\x40",
		1<<48 + 1:          "\x00\x01\x00\x00\x00\x00\x00\x00\x00\x00\x00\x40",
		1<<56 - 1:          "\x00\xff\xff\xff\xff\xff\xff\xfe\x00\x00\x00\x40",
		1 << 56:            "\x00\xff\xff\xff\xff\xff\xff\xff\x00\x00\x00\x40",
		1<<56 + 1:          "\x01\x00\x00\x00\x00\x00\x00\x00\x00\x00\x00\x40",
		0x123456789abcdef1: "\x12\x34\x56\x78\x9a\xbc\xde\xf0\x00\x00\x00\x40",
		math.MaxInt:        "\x7f\xff\xff\xff\xff\xff\xff\xfe\x00\x00\x00\x40",
		math.MinInt:        "\x7f\xff\xff\xff\xff\xff\xff\xff\x00\x00\x00\x40",
		math.MinInt + 1:    "\x80\x00\x00\x00\x00\x00\x00\x00\x00\x00\x00\x40",
		math.MinInt + 2:    "\x80\x00\x00\x00\x00\x00\x00\x01\x00\x00\x00\x40",
		math.MinInt32:      "\xff\xff\xff\xff\x7f\xff\xff\xff\x00\x00\x00\x40",
	} {
		want += "\x00\x00\x00\x00\x00\x00\x00\x00\x00\x00" + "\x00\x00\x00\x00\x00\x00\x00\x00\x00\x00"
		for _, n := range []int{32, 33, 255, math.MaxInt} {
			if b := capacity.Sixteen(blocks, n); string(b) != want || len(b) != 32 {
				t.Errorf("%d, %d: % x, want % x", blocks, n, b, want)
			}
			checkSixteen(t, blocks, n)
		}
	}
}

// P9.1: all numbers of blocks, as four bytes and as eight.
func TestBlocksAll(t *testing.T) {
	for _, blocks := range blockCounts() {
		checkTen(t, blocks)
		for _, n := range []int{-1, 0, 7, 8, 12, 31, 32, 64} {
			checkSixteen(t, blocks, n)
		}
	}
}

// P9.1: numbers of blocks, and n, whatever they are.
func TestBlocksAny(t *testing.T) {
	r := rand.New(rand.NewPCG(9, 1))
	for range 20000 {
		blocks := int(r.Uint64()) >> r.IntN(64)
		checkTen(t, blocks)
		checkSixteen(t, blocks, r.IntN(40)-3)
		checkSixteen(t, blocks, int(r.Uint64())>>r.IntN(64))
	}
}

// P9.1: n below 0, 0, 1, one less than all, just all, and more: what is cut is the beginning of all.
func TestSixteenCut(t *testing.T) {
	for _, blocks := range []int{-1, 0, 1, 16, 64, 257, 0x123456789abcdef1, math.MinInt, math.MaxInt} {
		all := capacity.Sixteen(blocks, 32)
		for _, n := range append(around(-40, 70), 255, 256, 512, 65535) {
			checkSixteen(t, blocks, n)
			if b := capacity.Sixteen(blocks, n); !bytes.HasPrefix(all, b) || len(b) != max(0, min(n, 32)) {
				t.Errorf("%d, %d: % x of % x", blocks, n, b, all)
			}
		}
	}
	for n, want := range map[int]string{
		math.MinInt: "", -1: "", 0: "", 1: "\x00", 2: "\x00\x00", 8: "\x00\x00\x00\x00\x00\x00\x00\x0f",
		9: "\x00\x00\x00\x00\x00\x00\x00\x0f\x00", 11: "\x00\x00\x00\x00\x00\x00\x00\x0f\x00\x00\x00", 12: "\x00\x00\x00\x00\x00\x00\x00\x0f\x00\x00\x00\x40",
		31: "\x00\x00\x00\x00\x00\x00\x00\x0f\x00\x00\x00\x40" + "\x00\x00\x00\x00\x00\x00\x00\x00\x00\x00\x00\x00\x00\x00\x00\x00\x00\x00\x00",
	} {
		if b := capacity.Sixteen(16, n); string(b) != want {
			t.Errorf("16, %d: % x, want % x", n, b, want)
		}
	}
}

// P9.1: lists of units, written out: fewer than 0, 0, 1, and so on to 4, 5 and more.
func TestLunsTold(t *testing.T) {
	for luns, want := range map[int]string{
		math.MinInt: lists[0], math.MinInt + 4: lists[0], math.MinInt32: lists[0], -1<<32 + 2: lists[0], -256: lists[0], -4: lists[0], -2: lists[0], -1: lists[0],
		0: lists[0], 1: lists[1], 2: lists[2], 3: lists[3], 4: lists[4],
		5: lists[4], 6: lists[4], 8: lists[4], 255: lists[4], 256: lists[4], 257: lists[4], 1 << 32: lists[4], 1<<32 + 1: lists[4], 1 << 61: lists[4], 1<<61 + 1: lists[4], math.MaxInt: lists[4],
	} {
		for _, n := range []int{40, 41, 255, 65535, math.MaxInt} {
			if b := capacity.Luns(luns, n); string(b) != want {
				t.Errorf("%d, %d: % x, want % x", luns, n, b, want)
			}
			checkLuns(t, luns, n)
		}
	}
	if api.MaxLuns != 4 || api.BlockSize != 64 {
		t.Error(api.MaxLuns, api.BlockSize)
	}
}

// P9.1: all numbers of units, and all n: below 0, 0, 1, one less than all, just all, and more.
func TestLunsAll(t *testing.T) {
	for _, luns := range around(-20, 300) {
		for _, n := range append(around(-9, 50), 255, 256, 65535) {
			checkLuns(t, luns, n)
		}
	}
}

// P9.1: what is cut is the beginning of all; what it says comes behind stays what it is.
func TestLunsCut(t *testing.T) {
	for luns, all := range lists {
		for _, n := range []int{math.MinInt, -1, 0, 1, 2, 3, 4, 5, 7, 8, 9, 10, 15, 16, 17, len(all) - 1, len(all), len(all) + 1, 1000, math.MaxInt} {
			b := capacity.Luns(luns, n)
			if !strings.HasPrefix(all, string(b)) || len(b) != max(0, min(n, len(all))) {
				t.Errorf("%d, %d: % x of % x", luns, n, b, all)
			}
			if len(b) >= 4 && int(b[3]) != 8*luns {
				t.Errorf("%d, %d: it says %d", luns, n, b[3])
			}
		}
	}
	for n, want := range map[int]string{
		-1: "", 0: "", 1: "\x00", 3: "\x00\x00\x00", 4: "\x00\x00\x00\x10", 8: "\x00\x00\x00\x10\x00\x00\x00\x00",
		16: "\x00\x00\x00\x10\x00\x00\x00\x00" + "\x00\x00\x00\x00\x00\x00\x00\x00",
		18: "\x00\x00\x00\x10\x00\x00\x00\x00" + "\x00\x00\x00\x00\x00\x00\x00\x00" + "\x00\x01",
		23: "\x00\x00\x00\x10\x00\x00\x00\x00" + "\x00\x00\x00\x00\x00\x00\x00\x00" + "\x00\x01\x00\x00\x00\x00\x00",
	} {
		if b := capacity.Luns(2, n); string(b) != want {
			t.Errorf("2, %d: % x, want % x", n, b, want)
		}
	}
}

// P9.2: the number of the last block is read again as how many blocks there are, as far as four bytes, or eight, hold it; what a block is long is read again, too.
func TestBlocksReadAgain(t *testing.T) {
	for _, blocks := range blockCounts() {
		if blocks < 1 {
			continue
		}
		if blocks <= 1<<32 {
			b := capacity.Ten(blocks)
			last, ok := number.Big(b, 0, 4)
			size, known := number.Big(b, 4, 4)
			if !ok || last+1 != uint64(blocks) || !known || size != api.BlockSize {
				t.Errorf("Ten(%d): block %d is the last one, of %d bytes", blocks, last, size)
			}
		}
		b := capacity.Sixteen(blocks, 12)
		last, ok := number.Big(b, 0, 8)
		size, known := number.Big(b, 8, 4)
		if !ok || last+1 != uint64(blocks) || !known || size != api.BlockSize {
			t.Errorf("Sixteen(%d, 12): block %d is the last one, of %d bytes", blocks, last, size)
		}
	}
}

// P9.2: both tell as much of each number of blocks that a medium may have, and no other number is told so.
func TestBlocksAlike(t *testing.T) {
	seen := map[string]int{}
	for blocks := range api.MaxBlocks + 1 {
		four, eight := capacity.Ten(blocks), capacity.Sixteen(blocks, 32)
		if !bytes.Equal(four, eight[4:12]) {
			t.Errorf("%d: % x and % x", blocks, four, eight)
		}
		for _, told := range []string{string(four), string(eight)} {
			if other, ok := seen[told]; ok {
				t.Errorf("%d is told as %d is: % x", blocks, other, told)
			}
			seen[told] = blocks
		}
	}
}

// P9.2: as many units are told as there are, each once, in their order, and these are those that layer 7 says are there; as many bytes come as are said.
func TestLunsReadAgain(t *testing.T) {
	for luns := range api.MaxLuns + 1 {
		b := capacity.Luns(luns, 1000)
		behind, ok := number.Big(b, 0, 4)
		if !ok || len(b) != 8+int(behind) || len(b) != 8+8*luns {
			t.Fatalf("%d: % x", luns, b)
		}
		for lun := range api.MaxLuns + 2 {
			is, _ := inquiry.Answer(api.Command{Op: api.Inquiry, N: 1}, lun, luns)
			if told := 8+8*lun < len(b); told != (is[0] == 0) {
				t.Errorf("%d of %d: told %v, and asked it says %x", lun, luns, told, is)
			}
			if at := 8 + 8*lun; at < len(b) && !bytes.Equal(b[at:at+8], []byte{0, byte(lun), 0, 0, 0, 0, 0, 0}) {
				t.Errorf("%d of %d: % x", lun, luns, b[at:at+8])
			}
		}
	}
}

// P9.1: what is answered is new memory: who writes into it, its spare room too, changes no other answer.
func TestNew(t *testing.T) {
	for i, call := range []func() []byte{
		func() []byte { return capacity.Ten(16) },
		func() []byte { return capacity.Sixteen(16, 32) },
		func() []byte { return capacity.Sixteen(16, 9) },
		func() []byte { return capacity.Luns(4, 40) },
		func() []byte { return capacity.Luns(3, 18) },
		func() []byte { return capacity.Luns(0, 8) },
	} {
		first, second := call(), call()
		want := bytes.Clone(second)
		for room := first[:cap(first)]; len(room) > 0; room = room[1:] {
			room[0] ^= 0xa5
		}
		if third := call(); !bytes.Equal(second, want) || !bytes.Equal(third, want) {
			t.Errorf("call %d: % x and % x, want % x", i, second, third, want)
		}
	}
}
