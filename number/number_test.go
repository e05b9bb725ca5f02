package number_test

import (
	"bytes"
	"math"
	"strings"
	"testing"

	"reticule/api"
	"reticule/number"
)

// samples are numbers whose bytes, and whose bits, differ from each other, and those at the edges.
var samples = []uint64{0, 1, 2, 0x7f, 0x80, 0xff, 0x100, 258, 0xffff, 0x10000, 0x01020304, 0xdeadbeef, 1 << 32, 0x0123456789abcdef, 0xfedcba9876543210, 0x8000000000000001, 1 << 63, math.MaxUint64 - 1, math.MaxUint64}

// extremes are whole numbers that wrap round when something is added to them, or taken off.
var extremes = []int{math.MinInt, math.MinInt + 1, math.MinInt + 64, math.MinInt32, math.MaxInt32, math.MaxInt - 64, math.MaxInt - 8, math.MaxInt - 1, math.MaxInt}

// around is the whole numbers from low to high, and the extremes.
func around(low, high int) []int {
	l := append([]int(nil), extremes...)
	for i := low; i <= high; i++ {
		l = append(l, i)
	}
	return l
}

// sum is the number of the bytes, the highest one first, by sums and products alone.
func sum(b []byte) uint64 {
	x := uint64(0)
	for _, c := range b {
		x = x*256 + uint64(c)
	}
	return x
}

func turned(b []byte) []byte {
	l := make([]byte, 0, len(b))
	for i := len(b) - 1; i >= 0; i-- {
		l = append(l, b[i])
	}
	return l
}

// P1.1: Big and Little, at all places and widths around the edges.
func TestRead(t *testing.T) {
	long := []byte{0xf1, 2, 0x83, 4, 0xff, 6, 0, 8, 0x99, 0x1a, 11, 0xfc}
	for count := range len(long) + 1 {
		b := long[:count]
		for _, at := range around(-9, 21) {
			for _, width := range around(-2, 17) {
				want := 0 <= at && at <= count && 1 <= width && width <= 8 && width <= count-at
				var big, little uint64
				if want {
					big, little = sum(b[at:at+width]), sum(turned(b[at:at+width]))
				}
				if x, ok := number.Big(b, at, width); x != big || ok != want {
					t.Errorf("Big of %d bytes, %d, %d: %x %v, want %x %v", count, at, width, x, ok, big, want)
				}
				if x, ok := number.Little(b, at, width); x != little || ok != want {
					t.Errorf("Little of %d bytes, %d, %d: %x %v, want %x %v", count, at, width, x, ok, little, want)
				}
			}
		}
	}
}

// P1.1: the cases that the chapter names, written out.
func TestReadEdges(t *testing.T) {
	b := []byte{0x81, 2, 3, 4, 5, 6, 7, 0xf8, 9}
	for _, c := range []struct {
		name        string
		b           []byte
		at, width   int
		big, little uint64
		ok          bool
	}{
		{"width 1", b, 0, 1, 0x81, 0x81, true},
		{"the last byte", b, 8, 1, 9, 9, true},
		{"width 8", b, 0, 8, 0x81020304050607f8, 0xf807060504030281, true},
		{"width 8 to the end", b, 1, 8, 0x020304050607f809, 0x09f8070605040302, true},
		{"width 0", b, 0, 0, 0, 0, false},
		{"width 0 at the end", b, 9, 0, 0, 0, false},
		{"width 9", b, 0, 9, 0, 0, false},
		{"width below 0", b, 4, -1, 0, 0, false},
		{"at below 0", b, -1, 1, 0, 0, false},
		{"at below 0, enough behind it", b, -1, 8, 0, 0, false},
		{"at the end", b, 9, 1, 0, 0, false},
		{"behind the end", b, 10, 1, 0, 0, false},
		{"one too few", b, 2, 8, 0, 0, false},
		{"at the greatest", b, math.MaxInt, 8, 0, 0, false},
		{"at the least", b, math.MinInt, 8, 0, 0, false},
		{"no bytes", nil, 0, 1, 0, 0, false},
		{"room behind the bytes isn't theirs", b[:3], 2, 2, 0, 0, false},
	} {
		if x, ok := number.Big(c.b, c.at, c.width); x != c.big || ok != c.ok {
			t.Errorf("Big, %s: %x %v", c.name, x, ok)
		}
		if x, ok := number.Little(c.b, c.at, c.width); x != c.little || ok != c.ok {
			t.Errorf("Little, %s: %x %v", c.name, x, ok)
		}
	}
}

// P1.1: the chapter's example, and what is above the width is cut off.
func TestPut(t *testing.T) {
	for _, c := range []struct {
		x     uint64
		width int
		big   []byte
	}{
		{258, 4, []byte{0, 0, 1, 2}},
		{258, 1, []byte{2}},
		{0x1ff, 1, []byte{0xff}},
		{0xabcdef, 2, []byte{0xcd, 0xef}},
		{0, 3, []byte{0, 0, 0}},
		{0x1122334455667788, 7, []byte{0x22, 0x33, 0x44, 0x55, 0x66, 0x77, 0x88}},
		{0x1122334455667788, 8, []byte{0x11, 0x22, 0x33, 0x44, 0x55, 0x66, 0x77, 0x88}},
		{math.MaxUint64, 8, []byte{255, 255, 255, 255, 255, 255, 255, 255}},
	} {
		if b := number.PutBig(c.x, c.width); !bytes.Equal(b, c.big) {
			t.Errorf("PutBig of %x, %d: %x", c.x, c.width, b)
		}
		if b := number.PutLittle(c.x, c.width); !bytes.Equal(b, turned(c.big)) {
			t.Errorf("PutLittle of %x, %d: %x", c.x, c.width, b)
		}
	}
}

// P1.1: as many bytes as the width, none unless it is from 1 to 8.
func TestPutWidths(t *testing.T) {
	for _, x := range samples {
		for _, width := range around(-9, 17) {
			want := 0
			if 1 <= width && width <= 8 {
				want = width
			}
			if b := number.PutBig(x, width); len(b) != want {
				t.Errorf("PutBig of %x, %d: %x", x, width, b)
			}
			if b := number.PutLittle(x, width); len(b) != want {
				t.Errorf("PutLittle of %x, %d: %x", x, width, b)
			}
		}
	}
}

func mayBeBits(from, n int) bool {
	return 0 <= from && from <= 64 && 1 <= n && n <= 64 && from+n <= 64
}

func bit(x uint64, i int) uint64 {
	for range i {
		x /= 2
	}
	return x % 2
}

// P1.1: each bit of the answer is the one that it must be.
func TestBits(t *testing.T) {
	for _, x := range samples {
		for _, from := range around(-2, 66) {
			for _, n := range around(-2, 66) {
				want := uint64(0)
				if mayBeBits(from, n) {
					for i := n - 1; i >= 0; i-- {
						want = want*2 + bit(x, from+i)
					}
				}
				if y := number.Bits(x, from, n); y != want {
					t.Errorf("Bits of %x, %d, %d: %x, want %x", x, from, n, y, want)
				}
			}
		}
	}
}

// P1.1: each bit of the answer is y's where it is one of those that are set, else x's.
func TestSet(t *testing.T) {
	for _, x := range samples {
		for _, from := range around(-2, 66) {
			for _, n := range around(-2, 66) {
				y := x*0x9e3779b97f4a7c15 + 0xa5a5
				want := uint64(0)
				for i := 63; i >= 0; i-- {
					one := bit(x, i)
					if mayBeBits(from, n) && from <= i && i < from+n {
						one = bit(y, i-from)
					}
					want = want*2 + one
				}
				if z := number.Set(x, from, n, y); z != want {
					t.Errorf("Set of %x, %d, %d, %x: %x, want %x", x, from, n, y, z, want)
				}
			}
		}
	}
}

// P1.1: the cases that the chapter names, written out.
func TestBitsEdges(t *testing.T) {
	const ones = math.MaxUint64
	for _, c := range []struct {
		name        string
		x           uint64
		from, n     int
		y           uint64
		read, after uint64
	}{
		{"all", 0x123456789, 0, 64, 5, 0x123456789, 5},
		{"all but the lowest", ones, 1, 63, 0, ones >> 1, 1},
		{"the highest", 1 << 63, 63, 1, 0, 1, 0},
		{"the lowest", 6, 0, 1, 1, 0, 7},
		{"more than n bits of y", 0, 4, 4, 0xfff, 0, 0xf0},
		{"from and n 64", 0xf000000000000000, 60, 4, 0xa, 0xf, 0xa000000000000000},
		{"from and n 65", ones, 61, 4, 0, 0, ones},
		{"from 1, n 64", ones, 1, 64, 0, 0, ones},
		{"from 64, n 1", ones, 64, 1, 0, 0, ones},
		{"from 64, n 0", ones, 64, 0, 0, 0, ones},
		{"from 0, n 65", ones, 0, 65, 0, 0, ones},
		{"n 0", ones, 3, 0, 0, 0, ones},
		{"n below 0", ones, 3, -1, 0, 0, ones},
		{"from below 0", ones, -1, 2, 0, 0, ones},
		{"from the greatest", ones, math.MaxInt, 64, 0, 0, ones},
		{"from the least", ones, math.MinInt, 64, 0, 0, ones},
		{"both the greatest", ones, math.MaxInt, math.MaxInt, 0, 0, ones},
		{"n the least", ones, 0, math.MinInt, 0, 0, ones},
	} {
		if y := number.Bits(c.x, c.from, c.n); y != c.read {
			t.Errorf("Bits, %s: %x", c.name, y)
		}
		if y := number.Set(c.x, c.from, c.n, c.y); y != c.after {
			t.Errorf("Set, %s: %x", c.name, y)
		}
	}
}

// P1.1: texts that are cut off, filled up, and lengths that may not be.
func TestText(t *testing.T) {
	long := strings.Repeat("abcdefg", 200)
	for _, c := range []struct {
		name, s string
		n       int
		want    string
	}{
		{"cut off", "reticule", 3, "ret"},
		{"just so long", "reticule", 8, "reticule"},
		{"filled up", "ret", 8, "ret     "},
		{"no text", "", 4, "    "},
		{"no text, n 0", "", 0, ""},
		{"n 0", "ret", 0, ""},
		{"n 1", "ret", 1, "r"},
		{"n 1024 of a longer one", long, 1024, long[:1024]},
		{"n 1024 of a shorter one", "ret", 1024, "ret" + strings.Repeat(" ", 1021)},
		{"n 1024 of no text", "", 1024, strings.Repeat(" ", 1024)},
		{"n 1023", long, 1023, long[:1023]},
		{"n 1025", long, 1025, ""},
		{"n 1025 of a shorter one", "ret", 1025, ""},
		{"n below 0", "ret", -1, ""},
		{"n the least", "ret", math.MinInt, ""},
		{"n the greatest", "ret", math.MaxInt, ""},
		{"bytes, not runes", "\u00e9\u20ac", 3, "\xc3\xa9\xe2"},
		{"bytes that are no runes", "\xff\x00\x80", 4, "\xff\x00\x80 "},
	} {
		if b := number.Text(c.s, c.n); string(b) != c.want {
			t.Errorf("%s: %q", c.name, b)
		}
	}
	if api.MaxBytes != 1024 {
		t.Error(api.MaxBytes)
	}
}

// P1.2: what is put is read as it was, as far as the width goes.
func TestPutThenRead(t *testing.T) {
	for _, x := range samples {
		for width := 1; width <= 8; width++ {
			want := x
			if width < 8 {
				want = x % (1 << (8 * width))
			}
			if y, ok := number.Big(number.PutBig(x, width), 0, width); y != want || !ok {
				t.Errorf("big, %x, %d: %x %v", x, width, y, ok)
			}
			if y, ok := number.Little(number.PutLittle(x, width), 0, width); y != want || !ok {
				t.Errorf("little, %x, %d: %x %v", x, width, y, ok)
			}
			if y, ok := number.Little(turned(number.PutBig(x, width)), 0, width); y != want || !ok {
				t.Errorf("big turned round, %x, %d: %x %v", x, width, y, ok)
			}
		}
	}
}

// P1.2: what is read is put as it was.
func TestReadThenPut(t *testing.T) {
	b := []byte{0, 0xff, 0x80, 1, 0, 0x7f, 0xfe, 0, 3, 0xaa, 0, 0}
	for width := 1; width <= 8; width++ {
		for at := 0; at+width <= len(b); at++ {
			want := b[at : at+width]
			if x, ok := number.Big(b, at, width); !ok || !bytes.Equal(number.PutBig(x, width), want) {
				t.Errorf("big, %d, %d: %x %v", at, width, x, ok)
			}
			if x, ok := number.Little(b, at, width); !ok || !bytes.Equal(number.PutLittle(x, width), want) {
				t.Errorf("little, %d, %d: %x %v", at, width, x, ok)
			}
		}
	}
}

// P1.2: bits that are set are read, and bits that are read are set as they were.
func TestSetThenBits(t *testing.T) {
	for _, x := range samples {
		for _, y := range samples {
			for n := 1; n <= 64; n++ {
				for from := 0; from+n <= 64; from++ {
					z := number.Set(x, from, n, y)
					if got := number.Bits(z, from, n); got != y<<(64-n)>>(64-n) {
						t.Errorf("%x, %d, %d, %x: %x", x, from, n, y, got)
					}
					if back := number.Set(z, from, n, number.Bits(x, from, n)); back != x {
						t.Errorf("%x, %d, %d, %x, and back: %x", x, from, n, y, back)
					}
				}
			}
		}
	}
}

// Rules 5 and 6: what is handed in stays, its spare room too, and answers share no memory with each other.
func TestNothingIsKept(t *testing.T) {
	whole := []byte{1, 2, 3, 4, 5, 6, 7, 8, 9, 10, 11, 12}
	was := bytes.Clone(whole)
	for at := -1; at <= 9; at++ {
		for width := 0; width <= 9; width++ {
			number.Big(whole[:8], at, width)
			number.Little(whole[:8], at, width)
		}
	}
	if !bytes.Equal(whole, was) {
		t.Error("changed", whole)
	}
	for i, put := range []func() []byte{
		func() []byte { return number.PutBig(258, 4) },
		func() []byte { return number.PutLittle(258, 4) },
		func() []byte { return number.Text("ret", 4) },
	} {
		first := put()
		want := bytes.Clone(first)
		clear(first[:cap(first)])
		if second := put(); !bytes.Equal(second, want) {
			t.Error("kept", i, second)
		}
	}
}
