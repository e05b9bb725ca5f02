package inquiry_test

import (
	"bytes"
	"math"
	"math/rand/v2"
	"slices"
	"testing"

	"reticule/api"
	"reticule/inquiry"
)

// The senses that are told, written out.
var (
	good  = api.Sense{}
	field = api.Sense{Key: 0x5, Code: 0x24}
)

// extremes are whole numbers that wrap round when something is added to them, or that fit when they are cut.
var extremes = []int{math.MinInt, math.MinInt + 1, math.MinInt + 0x12, math.MinInt + 0x80, math.MinInt32, math.MinInt32 - 1, math.MaxInt32, math.MaxInt32 + 1, math.MaxUint32, 1 << 32, 1<<32 + 1, 1<<32 + 0x12, 1<<32 + 0x80, 1 << 40, 1<<63 - 8, math.MaxInt - 1, math.MaxInt}

// pages are what each page tells of unit 0 while it is there; of pages 80 and 83 the last byte is the digit of the serial.
var pages = map[int]string{
	0x00: "\x00\x00\x00\x04\x00\x80\x83\xb0",
	0x80: "\x00\x80\x00\x08RT000000",
	0x83: "\x00\x83\x00\x14\x02\x01\x00\x10RETICULERT000000",
	0xb0: "\x00\xb0\x00\x3c" + "\x00\x00\x00\x00\x00\x00\x00\x40" +
		"\x00\x00\x00\x00\x00\x00\x00\x00\x00\x00\x00\x00\x00" +
		"\x00\x00\x00\x00\x00\x00\x00\x00\x00\x00\x00\x00\x00" +
		"\x00\x00\x00\x00\x00\x00\x00\x00\x00\x00\x00\x00\x00" +
		"\x00\x00\x00\x00\x00\x00\x00\x00\x00\x00\x00\x00\x00",
}

// told is what the standard answer tells while the unit is there.
const told = "\x00\x80\x06\x02\x1f\x00\x00\x02RETICULEGADGET DISK     0001"

// lowest is what is left of a number when eights are taken off it, or put to it, till it is from 0 to 7.
func lowest(lun int) int {
	left := lun % 8
	if left < 0 {
		left += 8
	}
	return left
}

// standard is what Standard must answer.
func standard(there bool) []byte {
	b := []byte(told)
	if !there {
		b[0] = 0x7f
	}
	return b
}

// page is what Page must answer.
func page(n, lun int, there bool) ([]byte, api.Sense) {
	text, ok := pages[n]
	if !ok {
		return nil, field
	}
	b := []byte(text)
	if !there {
		b[0] = 0x7f
	}
	if n == 0x80 || n == 0x83 {
		b[len(b)-1] = "01234567"[lowest(lun)]
	}
	return b, good
}

// begin is what Cut must answer.
func begin(b []byte, n int) []byte {
	l := []byte{}
	for i := 0; i < len(b) && i < n; i++ {
		l = append(l, b[i])
	}
	return l
}

// answer is what Answer must answer.
func answer(c api.Command, lun, luns int) ([]byte, api.Sense) {
	if c.Op != 0x12 {
		return nil, field
	}
	there := luns > 0 && 0 <= lun && lun <= luns-1
	if c.Bits == 1 {
		b, s := page(c.Page, lun, there)
		return begin(b, c.N), s
	}
	return begin(standard(there), c.N), good
}

// checkAnswer holds Answer against answer.
func checkAnswer(t *testing.T, c api.Command, lun, luns int) {
	t.Helper()
	want, wantS := answer(c, lun, luns)
	b, s := inquiry.Answer(c, lun, luns)
	if !bytes.Equal(b, want) || s != wantS {
		t.Errorf("Answer(%+v, %d, %d): % x %x, want % x %x", c, lun, luns, b, s, want, wantS)
	}
	if s != good && len(b) != 0 {
		t.Errorf("Answer(%+v, %d, %d): % x beside %x", c, lun, luns, b, s)
	}
}

// around is the whole numbers from low to high, and the extremes.
func around(low, high int) []int {
	l := slices.Clone(extremes)
	for i := low; i <= high; i++ {
		l = append(l, i)
	}
	return l
}

// P7.1: serials, written out: numbers below 0, from 0 to 7, of 8 and more, the least and the greatest.
func TestSerialTold(t *testing.T) {
	for lun, want := range map[int]string{
		0: "RT000000", 1: "RT000001", 2: "RT000002", 3: "RT000003", 4: "RT000004", 5: "RT000005", 6: "RT000006", 7: "RT000007",
		8: "RT000000", 9: "RT000001", 15: "RT000007", 16: "RT000000", 100: "RT000004", 1<<32 + 3: "RT000003", math.MaxInt: "RT000007", math.MaxInt - 1: "RT000006",
		-1: "RT000007", -2: "RT000006", -7: "RT000001", -8: "RT000000", -9: "RT000007", math.MinInt: "RT000000", math.MinInt + 5: "RT000005", math.MinInt32 - 1: "RT000007",
	} {
		if s := inquiry.Serial(lun); s != want {
			t.Errorf("%d: %q, want %q", lun, s, want)
		}
	}
}

// P7.1: a serial's digit goes on with the number, and begins again.
func TestSerialAll(t *testing.T) {
	for _, lun := range around(-1000, 1000) {
		want := "RT00000" + "01234567"[lowest(lun):lowest(lun)+1]
		if s := inquiry.Serial(lun); s != want {
			t.Errorf("%d: %q, want %q", lun, s, want)
		}
	}
}

// P7.1: the standard answer, byte by byte.
func TestStandard(t *testing.T) {
	want := []byte{
		0x00, 0x80, 0x06, 0x02, 0x1f, 0x00, 0x00, 0x02,
		'R', 'E', 'T', 'I', 'C', 'U', 'L', 'E',
		'G', 'A', 'D', 'G', 'E', 'T', ' ', 'D', 'I', 'S', 'K', ' ', ' ', ' ', ' ', ' ',
		'0', '0', '0', '1',
	}
	if b := inquiry.Standard(true); !bytes.Equal(b, want) || len(b) != 36 {
		t.Errorf("% x, want % x", b, want)
	}
	want[0] = 0x7f
	if b := inquiry.Standard(false); !bytes.Equal(b, want) {
		t.Errorf("% x, want % x", b, want)
	}
}

// P7.1: pages, written out.
func TestPageTold(t *testing.T) {
	limits := append([]byte{0, 0xb0, 0, 60, 0, 0, 0, 0, 0, 0, 0, 0x40}, make([]byte, 52)...)
	absent := slices.Clone(limits)
	absent[0] = 0x7f
	for _, x := range []struct {
		page, lun int
		there     bool
		want      []byte
	}{
		{0x80, 2, true, []byte("\x00\x80\x00\x08RT000002")}, // the chapter's example
		{0, 0, true, []byte{0, 0, 0, 4, 0, 0x80, 0x83, 0xb0}},
		{0, 3, true, []byte{0, 0, 0, 4, 0, 0x80, 0x83, 0xb0}},
		{0, 3, false, []byte{0x7f, 0, 0, 4, 0, 0x80, 0x83, 0xb0}},
		{0x80, 0, true, []byte("\x00\x80\x00\x08RT000000")},
		{0x80, 7, true, []byte("\x00\x80\x00\x08RT000007")},
		{0x80, 8, false, []byte("\x7f\x80\x00\x08RT000000")},
		{0x80, -1, false, []byte("\x7f\x80\x00\x08RT000007")},
		{0x80, math.MinInt, true, []byte("\x00\x80\x00\x08RT000000")},
		{0x80, math.MaxInt, true, []byte("\x00\x80\x00\x08RT000007")},
		{0x83, 0, true, []byte("\x00\x83\x00\x14\x02\x01\x00\x10RETICULERT000000")},
		{0x83, 3, true, []byte("\x00\x83\x00\x14\x02\x01\x00\x10RETICULERT000003")},
		{0x83, -3, false, []byte("\x7f\x83\x00\x14\x02\x01\x00\x10RETICULERT000005")},
		{0xb0, 0, true, limits},
		{0xb0, 3, true, limits},
		{0xb0, 3, false, absent},
	} {
		if b, s := inquiry.Page(x.page, x.lun, x.there); !bytes.Equal(b, x.want) || s != good {
			t.Errorf("%x of %d, %v: % x %x, want % x", x.page, x.lun, x.there, b, s, x.want)
		}
	}
}

// P7.1: each page, of units of each digit and of the extremes, and no other page: their neighbours, numbers below 0 and above 255, and those that are a page's when they are cut.
func TestPageAll(t *testing.T) {
	numbers := around(-600, 1200)
	for n := range pages {
		numbers = append(numbers, n-256, n+256, n+65536, n+1<<32, n+math.MinInt, -n, ^n)
	}
	for _, n := range numbers {
		for _, lun := range []int{math.MinInt, -9, -8, -1, 0, 1, 2, 3, 4, 5, 6, 7, 8, 15, 255, 1<<32 + 2, math.MaxInt} {
			for _, there := range []bool{false, true} {
				want, wantS := page(n, lun, there)
				b, s := inquiry.Page(n, lun, there)
				if !bytes.Equal(b, want) || s != wantS {
					t.Errorf("%x of %d, %v: % x %x, want % x %x", n, lun, there, b, s, want, wantS)
				}
			}
		}
	}
}

// P7.1: none and Field, where there is no such page, written out.
func TestPageNone(t *testing.T) {
	for _, n := range []int{-1, 1, 2, 0x7e, 0x7f, 0x81, 0x82, 0x84, 0xaf, 0xb1, 0xb2, 0xff, 0x100, 0x101, 0x180, 0x183, 0x1b0, -0x80, -256, 0x10080, 1 << 32, 1<<32 + 0x80, math.MinInt, math.MinInt + 0x80, math.MaxInt} {
		for _, there := range []bool{false, true} {
			if b, s := inquiry.Page(n, 0, there); len(b) != 0 || s != field {
				t.Errorf("%x: % x %x", n, b, s)
			}
			if b, s := inquiry.Answer(api.Command{Op: api.Inquiry, N: 255, Page: n, Bits: 1}, 0, 1); len(b) != 0 || s != field {
				t.Errorf("%x: % x %x", n, b, s)
			}
		}
	}
}

// P7.2: each page, and the standard answer, is as long as it says itself.
func TestAsLong(t *testing.T) {
	for _, there := range []bool{false, true} {
		b := inquiry.Standard(there)
		if len(b) != 36 || len(b) != 5+int(b[4]) {
			t.Errorf("%d bytes, and it says %x", len(b), b[4])
		}
		for _, lun := range around(-20, 20) {
			for n := range pages {
				b, s := inquiry.Page(n, lun, there)
				if s != good || len(b) < 4 || int(b[1]) != n || len(b) != 4+int(b[2])*256+int(b[3]) {
					t.Errorf("%x of %d: % x %x", n, lun, b, s)
				}
			}
			if b, _ := inquiry.Page(0x83, lun, there); len(b) < 8 || len(b) != 8+int(b[7]) {
				t.Errorf("% x: its name is of another length", b)
			}
			if b, _ := inquiry.Page(0x80, lun, there); string(b[4:]) != inquiry.Serial(lun) {
				t.Errorf("% x: another serial than %q", b, inquiry.Serial(lun))
			}
		}
	}
}

// P7.1: page 0 tells all pages that there are.
func TestPageList(t *testing.T) {
	b, _ := inquiry.Page(0, 0, true)
	for n := range 256 {
		_, s := inquiry.Page(n, 0, true)
		if slices.Contains(b[4:], byte(n)) != (s == good) {
			t.Errorf("%x: %x, and page 0 is % x", n, s, b)
		}
	}
}

// P7.1 and P7.2: the first bytes, as far as there are; none of a number below 0.
func TestCut(t *testing.T) {
	long := make([]byte, 1024)
	for i := range long {
		long[i] = byte(i*7 + i/256 + 1)
	}
	for _, size := range []int{0, 1, 2, 3, 36, 64, 1023, 1024} {
		b := long[:size]
		for _, n := range append(around(-3, 70), -size, size-1, size, size+1, 1023, 1024, 1025) {
			if got := inquiry.Cut(b, n); !bytes.Equal(got, begin(b, n)) || !bytes.HasPrefix(b, got) {
				t.Errorf("%d of %d: % x", n, size, got)
			}
		}
	}
	for _, n := range around(-3, 3) {
		if got := inquiry.Cut(nil, n); len(got) != 0 {
			t.Errorf("%d of none: % x", n, got)
		}
	}
}

// P7.1 and P7.2: cuts, written out.
func TestCutTold(t *testing.T) {
	for _, x := range []struct {
		b    string
		n    int
		want string
	}{
		{"", 0, ""}, {"", 1, ""}, {"", -1, ""}, {"", math.MaxInt, ""},
		{"abc", math.MinInt, ""}, {"abc", -3, ""}, {"abc", -1, ""}, {"abc", 0, ""}, {"abc", 1, "a"}, {"abc", 2, "ab"}, {"abc", 3, "abc"}, {"abc", 4, "abc"}, {"abc", 1 << 32, "abc"}, {"abc", 1<<32 + 1, "abc"}, {"abc", math.MaxInt, "abc"},
	} {
		if got := inquiry.Cut([]byte(x.b), x.n); string(got) != x.want {
			t.Errorf("%q, %d: %q, want %q", x.b, x.n, got, x.want)
		}
	}
}

// P7.1: a unit is there from 0 up to below how many there are: below 0, 0, the last one, as many, and more; no units, and fewer than none.
func TestThere(t *testing.T) {
	for _, x := range []struct {
		lun, luns int
		want      byte
	}{
		{0, 1, 0}, {0, 4, 0}, {1, 4, 0}, {3, 4, 0}, {7, 8, 0}, {0, math.MaxInt, 0}, {math.MaxInt - 1, math.MaxInt, 0},
		{4, 4, 0x7f}, {5, 4, 0x7f}, {1, 1, 0x7f}, {-1, 4, 0x7f}, {-4, 4, 0x7f}, {math.MinInt, 4, 0x7f}, {math.MaxInt, 4, 0x7f}, {math.MaxInt, math.MaxInt, 0x7f}, {1 << 32, 4, 0x7f}, {256, 4, 0x7f}, {8, 4, 0x7f},
		{0, 0, 0x7f}, {-1, 0, 0x7f}, {1, 0, 0x7f},
		{0, -1, 0x7f}, {-1, -1, 0x7f}, {-2, -1, 0x7f}, {1, -1, 0x7f}, {0, math.MinInt, 0x7f}, {math.MinInt, math.MinInt, 0x7f}, {math.MinInt, -1, 0x7f}, {math.MinInt, 0, 0x7f}, {math.MaxInt, math.MinInt, 0x7f}, {math.MinInt, math.MaxInt, 0x7f},
	} {
		b, s := inquiry.Answer(api.Command{Op: api.Inquiry, N: 36}, x.lun, x.luns)
		if len(b) != 36 || b[0] != x.want || s != good {
			t.Errorf("%d of %d: % x %x", x.lun, x.luns, b, s)
		}
		for n, text := range pages {
			b, s := inquiry.Answer(api.Command{Op: api.Inquiry, N: 255, Page: n, Bits: 1}, x.lun, x.luns)
			if len(b) != len(text) || b[0] != x.want || s != good {
				t.Errorf("page %x of %d of %d: % x %x", n, x.lun, x.luns, b, s)
			}
		}
	}
}

// P7.1: answers, written out.
func TestAnswerTold(t *testing.T) {
	for _, x := range []struct {
		c         api.Command
		lun, luns int
		want      string
	}{
		{api.Command{Op: api.Inquiry, N: 36}, 0, 1, told},
		{api.Command{Op: api.Inquiry, N: 35}, 0, 1, told[:35]},
		{api.Command{Op: api.Inquiry, N: 37}, 0, 1, told},
		{api.Command{Op: api.Inquiry, N: 5}, 3, 4, "\x00\x80\x06\x02\x1f"},
		{api.Command{Op: api.Inquiry, N: 5}, 4, 4, "\x7f\x80\x06\x02\x1f"},
		{api.Command{Op: api.Inquiry, N: 1}, 0, 0, "\x7f"},
		{api.Command{Op: api.Inquiry}, 0, 1, ""},
		{api.Command{Op: api.Inquiry, N: -1}, 0, 1, ""},
		{api.Command{Op: api.Inquiry, N: 65535, Bits: 0, Page: 0x80}, 0, 1, told},
		{api.Command{Op: api.Inquiry, N: 36, Bits: 0, Page: 1}, 0, 1, told},
		{api.Command{Op: api.Inquiry, N: 36, Bits: 2, Page: 0x80}, 0, 1, told},
		{api.Command{Op: api.Inquiry, N: 36, Bits: 3, Page: 1}, 0, 1, told},
		{api.Command{Op: api.Inquiry, N: 36, Bits: -1, Page: 0x83}, 0, 1, told},
		{api.Command{Op: api.Inquiry, N: 36, Bits: 1<<32 + 1}, 0, 1, told},
		{api.Command{Op: api.Inquiry, N: 36, Bits: 257}, 0, 1, told},
		{api.Command{Op: api.Inquiry, N: 36, At: math.MaxUint64}, 0, 1, told},
		{api.Command{Op: api.Inquiry, N: 255, Bits: 1}, 0, 1, "\x00\x00\x00\x04\x00\x80\x83\xb0"},
		{api.Command{Op: api.Inquiry, N: 12, Bits: 1, Page: 0x80}, 2, 4, "\x00\x80\x00\x08RT000002"},
		{api.Command{Op: api.Inquiry, N: 11, Bits: 1, Page: 0x80}, 2, 4, "\x00\x80\x00\x08RT00000"},
		{api.Command{Op: api.Inquiry, N: 13, Bits: 1, Page: 0x80}, 2, 2, "\x7f\x80\x00\x08RT000002"},
		{api.Command{Op: api.Inquiry, N: 4, Bits: 1, Page: 0x83}, 2, 4, "\x00\x83\x00\x14"},
		{api.Command{Op: api.Inquiry, N: 24, Bits: 1, Page: 0x83}, 3, 4, "\x00\x83\x00\x14\x02\x01\x00\x10RETICULERT000003"},
		{api.Command{Op: api.Inquiry, N: 12, Bits: 1, Page: 0xb0}, 0, 1, "\x00\xb0\x00\x3c\x00\x00\x00\x00\x00\x00\x00\x40"},
		{api.Command{Op: api.Inquiry, N: 0, Bits: 1, Page: 0xb0}, 0, 1, ""},
		{api.Command{Op: api.Inquiry, N: math.MinInt, Bits: 1, Page: 0xb0}, 0, 1, ""},
	} {
		if b, s := inquiry.Answer(x.c, x.lun, x.luns); string(b) != x.want || s != good {
			t.Errorf("%+v, %d of %d: %q %x, want %q", x.c, x.lun, x.luns, b, s, x.want)
		}
		checkAnswer(t, x.c, x.lun, x.luns)
	}
}

// P7.1: Field, and no bytes, of every other op than Inquiry, those among them that are its number when they are cut.
func TestAnswerOther(t *testing.T) {
	for _, op := range append(around(-600, 70000), api.Inquiry-256, api.Inquiry+256, -api.Inquiry, api.Inquiry+math.MinInt) {
		if op == api.Inquiry {
			continue
		}
		for _, bits := range []int{0, 1} {
			if b, s := inquiry.Answer(api.Command{Op: op, N: 36, Page: 0x80, Bits: bits}, 0, 1); len(b) != 0 || s != field {
				t.Errorf("%x: % x %x", op, b, s)
			}
		}
	}
}

// P7.1 and P7.2: N below 0, 0, 1, one less than all, just all, and more: an answer is the beginning of what is told in full.
func TestAnswerCut(t *testing.T) {
	for _, lun := range []int{-1, 0, 3, 4, 9} {
		for _, bits := range []int{math.MinInt, -1, 0, 1, 2, 3, 256, 257, math.MaxInt} {
			for _, n := range []int{-1, 0, 1, 0x7f, 0x80, 0x81, 0x82, 0x83, 0x84, 0xaf, 0xb0, 0xb1, 256, 0x180, math.MaxInt} {
				c := api.Command{Op: api.Inquiry, N: math.MaxInt, Page: n, Bits: bits}
				all, _ := inquiry.Answer(c, lun, 4)
				for _, c.N = range append(around(-2, 70), len(all)-1, len(all), len(all)+1, 255, 256, 65535) {
					checkAnswer(t, c, lun, 4)
					if b, _ := inquiry.Answer(c, lun, 4); !bytes.HasPrefix(all, b) || c.N >= 0 && len(b) != min(c.N, len(all)) {
						t.Errorf("%+v: % x of % x", c, b, all)
					}
				}
			}
		}
	}
}

// P7.1: units and how many there are, all pairs of small ones and of the extremes.
func TestAnswerUnits(t *testing.T) {
	l := around(-9, 9)
	for _, lun := range l {
		for _, luns := range l {
			checkAnswer(t, api.Command{Op: api.Inquiry, N: 36}, lun, luns)
			for n := range pages {
				checkAnswer(t, api.Command{Op: api.Inquiry, N: 64, Page: n, Bits: 1}, lun, luns)
			}
		}
	}
}

// P7.1: any command to any unit, of any that there are.
func TestAnswerAny(t *testing.T) {
	r := rand.New(rand.NewPCG(7, 1))
	numbers := append(around(-9, 70), 0x7f, 0x80, 0x81, 0x82, 0x83, 0x84, 0xaf, 0xb0, 0xb1, 255, 256)
	pick := func(l ...int) int {
		if r.IntN(4) == 0 {
			l = numbers
		}
		return l[r.IntN(len(l))]
	}
	for range 100000 {
		c := api.Command{Op: pick(0x12), At: r.Uint64() >> r.IntN(65), N: pick(0, 1, 4, 12, 36, 64, 255), Page: pick(0, 0x80, 0x83, 0xb0), Bits: pick(0, 1)}
		checkAnswer(t, c, pick(0, 1, 2, 3), pick(1, 2, 3, 4))
	}
}

// scratch writes into an answer, its spare room too.
func scratch(b []byte) {
	b = b[:cap(b)]
	for i := range b {
		b[i] ^= 0xa5
	}
}

// P7.1: what was handed in, its spare room too, is as it was behind each call, nothing hangs on that room, and who writes into an answer doesn't write into what was handed in.
func TestCutStays(t *testing.T) {
	room := make([]byte, 80)
	for i := range room {
		room[i] = byte(i + 1)
	}
	was := slices.Clone(room)
	for size := range room {
		for n := -1; n <= size+3; n++ {
			b := inquiry.Cut(room[:size], n)
			if !bytes.Equal(b, begin(was[:size], n)) {
				t.Errorf("%d of %d: % x", n, size, b)
			}
			scratch(b)
			if !bytes.Equal(room, was) {
				t.Fatalf("%d of %d: % x, was % x", n, size, room, was)
			}
		}
	}
}

// P7.1: what is answered is new memory: who writes into it, or lets it grow, changes no other answer.
func TestNew(t *testing.T) {
	for _, there := range []bool{false, true} {
		first, second := inquiry.Standard(there), inquiry.Standard(there)
		scratch(first)
		if third := inquiry.Standard(there); !bytes.Equal(second, standard(there)) || !bytes.Equal(third, standard(there)) {
			t.Errorf("% x, % x", second, third)
		}
		for n := range pages {
			first, _ := inquiry.Page(n, 3, there)
			second, _ := inquiry.Page(n, 3, there)
			scratch(first)
			third, _ := inquiry.Page(n, 3, there)
			if want, _ := page(n, 3, there); !bytes.Equal(second, want) || !bytes.Equal(third, want) {
				t.Errorf("%x: % x, % x", n, second, third)
			}
		}
	}
	for _, c := range []api.Command{{Op: api.Inquiry, N: 36}, {Op: api.Inquiry, N: 20}, {Op: api.Inquiry, N: 64, Page: 0xb0, Bits: 1}, {Op: api.Inquiry, N: 9, Page: 0x83, Bits: 1}} {
		first, _ := inquiry.Answer(c, 1, 4)
		second, _ := inquiry.Answer(c, 1, 4)
		scratch(first)
		third, _ := inquiry.Answer(c, 1, 4)
		if want, _ := answer(c, 1, 4); !bytes.Equal(second, want) || !bytes.Equal(third, want) {
			t.Errorf("%+v: % x, % x", c, second, third)
		}
	}
}
