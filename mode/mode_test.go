package mode_test

import (
	"bytes"
	"math"
	"math/rand/v2"
	"slices"
	"strings"
	"testing"

	"reticule/api"
	"reticule/mode"
)

// The senses that are told, written out.
var (
	good      = api.Sense{}
	field     = api.Sense{Key: 0x5, Code: 0x24}
	saving    = api.Sense{Key: 0x5, Code: 0x39}
	length    = api.Sense{Key: 0x5, Code: 0x1a}
	parameter = api.Sense{Key: 0x5, Code: 0x26}
)

// The pages' bytes, written out.
const (
	on   = "\x08\x12\x04\x00\x00\x00\x00\x00\x00\x00\x00\x00\x00\x00\x00\x00\x00\x00\x00\x00"
	off  = "\x08\x12\x00\x00\x00\x00\x00\x00\x00\x00\x00\x00\x00\x00\x00\x00\x00\x00\x00\x00"
	last = "\x1c\x0a\x00\x00\x00\x00\x00\x00\x00\x00\x00\x00"
)

// Headers that tell no descriptors; their other bytes say nothing.
const (
	six = "\x09\x80\xff\x00"
	ten = "\x09\x80\xff\x01\x02\x03\x00\x00"
)

// extremes are whole numbers that wrap round when something is added to them, or that fit when they are cut.
var extremes = []int{math.MinInt, math.MinInt + 1, math.MinInt + 8, math.MinInt + 0x1c, math.MinInt32, math.MinInt32 - 1, math.MaxInt32, math.MaxInt32 + 1, math.MaxUint32, 1 << 32, 1<<32 + 1, 1<<32 + 2, 1<<32 + 3, 1<<32 + 8, 1<<32 + 0x1c, 1<<32 + 0x3f, 1 << 40, math.MaxInt - 1, math.MaxInt}

var either = []bool{false, true}

// around is the whole numbers from low to high, and the extremes.
func around(low, high int) []int {
	l := slices.Clone(extremes)
	for i := low; i <= high; i++ {
		l = append(l, i)
	}
	return l
}

// page is what Page must answer.
func page(n, which int, caching bool) (string, bool) {
	eight := off
	switch which {
	case 1, 2:
		eight = on
	default:
		if caching {
			eight = on
		}
	}
	switch n {
	case 8:
		return eight, true
	case 0x1c:
		return last, true
	case 0x3f:
		return eight + last, true
	}
	return "", false
}

// answer is what Answer must answer.
func answer(c api.Command, caching, protect bool) (string, api.Sense) {
	if c.Op != 0x1a && c.Op != 0x5a {
		return "", field
	}
	pages, ok := page(c.Page, c.Bits, caching)
	if c.Bits == 3 {
		return "", saving
	}
	if !ok {
		return "", field
	}
	flag := "\x00"
	if protect {
		flag = "\x80"
	}
	all := ""
	if c.Op == 0x1a {
		all = string(rune(3+len(pages))) + "\x00" + flag + "\x00" + pages
	} else {
		all = "\x00" + string(rune(6+len(pages))) + "\x00" + flag + "\x00\x00\x00\x00" + pages
	}
	begin := ""
	for i := 0; i < len(all) && i < c.N; i++ {
		begin += all[i : i+1]
	}
	return begin, good
}

// selected is what Select must answer, gone through byte by byte.
func selected(b string, isTen, caching bool) (bool, api.Sense) {
	if b == "" {
		return caching, good
	}
	at, descriptors := 4, 0
	if isTen {
		at = 8
	}
	if len(b) < at {
		return false, length
	}
	descriptors = int(b[at-1])
	if isTen {
		descriptors += 256 * int(b[at-2])
	}
	switch descriptors {
	case 0:
	case 8:
		at += 8
	default:
		return false, parameter
	}
	if len(b) < at {
		return false, length
	}
	for at < len(b) {
		if at+1 == len(b) || at+2+int(b[at+1]) > len(b) {
			return false, length
		}
		end := at + 2 + int(b[at+1])
		switch b[at:end] {
		case on:
			caching = true
		case off:
			caching = false
		case last:
		default:
			return false, parameter
		}
		at = end
	}
	return caching, good
}

func checkPage(t *testing.T, n, which int, caching bool) {
	t.Helper()
	want, wantOk := page(n, which, caching)
	if b, ok := mode.Page(n, which, caching); string(b) != want || ok != wantOk {
		t.Errorf("Page(%x, %d, %v): % x %v, want % x %v", n, which, caching, b, ok, want, wantOk)
	}
}

func checkAnswer(t *testing.T, c api.Command, caching, protect bool) {
	t.Helper()
	want, wantS := answer(c, caching, protect)
	b, s := mode.Answer(c, caching, protect)
	if string(b) != want || s != wantS {
		t.Errorf("Answer(%+v, %v, %v): % x %x, want % x %x", c, caching, protect, b, s, want, wantS)
	}
	if s != good && len(b) != 0 {
		t.Errorf("Answer(%+v, %v, %v): % x beside %x", c, caching, protect, b, s)
	}
}

// checkSelect holds Select against selected, whatever was cached.
func checkSelect(t *testing.T, b string, isTen bool) {
	t.Helper()
	for _, caching := range either {
		want, wantS := selected(b, isTen, caching)
		got, s := mode.Select([]byte(b), isTen, caching)
		if got != want || s != wantS {
			t.Errorf("Select(% x, %v, %v): %v %x, want %v %x", b, isTen, caching, got, s, want, wantS)
		}
		if s != good && got {
			t.Errorf("Select(% x, %v, %v): true beside %x", b, isTen, caching, s)
		}
	}
}

// checkBoth lays pages behind each header, and behind each one with descriptors.
func checkBoth(t *testing.T, pages string) {
	t.Helper()
	checkSelect(t, six+pages, false)
	checkSelect(t, ten+pages, true)
	checkSelect(t, "\xff\x01\x02\x08abcdefgh"+pages, false)
	checkSelect(t, "\xff\x01\x02\x03\x04\x05\x00\x08abcdefgh"+pages, true)
}

// P8.1: pages, written out: each of them, of which values, caching or not; and what is none.
func TestPageTold(t *testing.T) {
	for _, x := range []struct {
		page, which int
		caching     bool
		want        string
		ok          bool
	}{
		{8, 0, true, on, true}, // the chapter's example
		{8, 0, false, off, true}, {8, 1, false, on, true}, {8, 1, true, on, true}, {8, 2, false, on, true}, {8, 2, true, on, true},
		{8, 3, false, off, true}, {8, 3, true, on, true}, {8, 4, false, off, true}, {8, -1, false, off, true}, {8, -2, false, off, true}, {8, 5, true, on, true},
		{8, 1<<32 + 1, false, off, true}, {8, 257, false, off, true}, {8, 258, false, off, true}, {8, math.MinInt, false, off, true}, {8, math.MaxInt, false, off, true},
		{0x1c, 0, false, last, true}, {0x1c, 0, true, last, true}, {0x1c, 1, true, last, true}, {0x1c, 2, true, last, true}, {0x1c, 3, true, last, true}, {0x1c, 9, false, last, true},
		{0x3f, 0, false, off + last, true}, {0x3f, 0, true, on + last, true}, {0x3f, 1, false, on + last, true}, {0x3f, 2, false, on + last, true}, {0x3f, 3, false, off + last, true}, {0x3f, -1, true, on + last, true},
		{0, 0, true, "", false}, {7, 0, true, "", false}, {9, 0, true, "", false}, {0x1b, 0, true, "", false}, {0x1d, 0, true, "", false}, {0x3e, 0, true, "", false}, {0x40, 0, true, "", false}, {0x88, 0, true, "", false}, {0x9c, 0, true, "", false}, {0xbf, 0, true, "", false}, {0xff, 0, true, "", false},
		{-8, 0, true, "", false}, {-1, 0, true, "", false}, {0x108, 0, true, "", false}, {0x11c, 0, true, "", false}, {0x13f, 0, true, "", false}, {1<<32 + 8, 1, true, "", false}, {math.MinInt + 8, 2, true, "", false}, {math.MaxInt, 3, true, "", false},
	} {
		if b, ok := mode.Page(x.page, x.which, x.caching); string(b) != x.want || ok != x.ok {
			t.Errorf("%x, %d, %v: % x %v, want % x", x.page, x.which, x.caching, b, ok, x.want)
		}
	}
}

// P8.1: each page, and no other one: neighbours, numbers below 0 and above 255, and those that are a page's when they are cut; of all sorts of values.
func TestPageAll(t *testing.T) {
	numbers := around(-600, 1200)
	for _, n := range []int{8, 0x1c, 0x3f} {
		numbers = append(numbers, n+65536, n+1<<32, n+math.MinInt, -n, ^n)
	}
	for _, n := range numbers {
		for _, which := range append(around(-5, 9), 255, 256, 257, 258, 259, 65537) {
			for _, caching := range either {
				checkPage(t, n, which, caching)
			}
		}
	}
}

// P8.1: answers, written out.
func TestAnswerTold(t *testing.T) {
	for _, x := range []struct {
		c                api.Command
		caching, protect bool
		want             string
	}{
		{api.Command{Op: 0x1a, N: 255, Page: 8}, true, false, "\x17\x00\x00\x00" + on},
		{api.Command{Op: 0x1a, N: 255, Page: 8}, false, true, "\x17\x00\x80\x00" + off},
		{api.Command{Op: 0x1a, N: 255, Page: 8, Bits: 1}, false, false, "\x17\x00\x00\x00" + on},
		{api.Command{Op: 0x1a, N: 255, Page: 8, Bits: 2}, false, true, "\x17\x00\x80\x00" + on},
		{api.Command{Op: 0x1a, N: 255, Page: 0x1c}, true, true, "\x0f\x00\x80\x00" + last},
		{api.Command{Op: 0x1a, N: 255, Page: 0x1c, Bits: 1}, true, false, "\x0f\x00\x00\x00" + last},
		{api.Command{Op: 0x1a, N: 255, Page: 0x3f}, false, false, "\x23\x00\x00\x00" + off + last},
		{api.Command{Op: 0x1a, N: 255, Page: 0x3f, Bits: 2}, false, true, "\x23\x00\x80\x00" + on + last},
		{api.Command{Op: 0x5a, N: 255, Page: 8}, true, false, "\x00\x1a\x00\x00\x00\x00\x00\x00" + on},
		{api.Command{Op: 0x5a, N: 255, Page: 8}, false, true, "\x00\x1a\x00\x80\x00\x00\x00\x00" + off},
		{api.Command{Op: 0x5a, N: 255, Page: 0x1c}, true, true, "\x00\x12\x00\x80\x00\x00\x00\x00" + last},
		{api.Command{Op: 0x5a, N: 65535, Page: 0x3f}, true, false, "\x00\x26\x00\x00\x00\x00\x00\x00" + on + last},
		{api.Command{Op: 0x5a, N: 255, Page: 0x3f, Bits: 1}, false, true, "\x00\x26\x00\x80\x00\x00\x00\x00" + on + last},
		{api.Command{Op: 0x1a, N: 255, Page: 8, Bits: 4}, false, false, "\x17\x00\x00\x00" + off},
		{api.Command{Op: 0x1a, N: 255, Page: 8, Bits: -1}, true, false, "\x17\x00\x00\x00" + on},
		{api.Command{Op: 0x1a, N: 255, Page: 8, Bits: 1<<32 + 3}, false, false, "\x17\x00\x00\x00" + off},
		{api.Command{Op: 0x1a, N: 255, Page: 8, At: math.MaxUint64}, true, false, "\x17\x00\x00\x00" + on},
		{api.Command{Op: 0x1a, N: 24, Page: 8}, true, false, "\x17\x00\x00\x00" + on},
		{api.Command{Op: 0x1a, N: 23, Page: 8}, true, false, "\x17\x00\x00\x00" + on[:19]},
		{api.Command{Op: 0x1a, N: 25, Page: 8}, true, false, "\x17\x00\x00\x00" + on},
		{api.Command{Op: 0x1a, N: 4, Page: 8}, true, true, "\x17\x00\x80\x00"},
		{api.Command{Op: 0x1a, N: 1, Page: 0x3f}, true, true, "\x23"},
		{api.Command{Op: 0x5a, N: 1, Page: 0x3f}, true, true, "\x00"},
		{api.Command{Op: 0x5a, N: 2, Page: 0x3f}, true, true, "\x00\x26"},
		{api.Command{Op: 0x1a, N: 0, Page: 8}, true, true, ""},
		{api.Command{Op: 0x5a, N: -1, Page: 8}, true, true, ""},
		{api.Command{Op: 0x5a, N: math.MinInt, Page: 8}, true, true, ""},
		{api.Command{Op: 0x5a, N: math.MaxInt, Page: 0x1c}, true, false, "\x00\x12\x00\x00\x00\x00\x00\x00" + last},
	} {
		if b, s := mode.Answer(x.c, x.caching, x.protect); string(b) != x.want || s != good {
			t.Errorf("%+v, %v, %v: % x %x, want % x", x.c, x.caching, x.protect, b, s, x.want)
		}
		checkAnswer(t, x.c, x.caching, x.protect)
	}
}

// P8.1: no bytes, and why: another command comes first, then values that are none, then a page that is none.
func TestAnswerWrong(t *testing.T) {
	for _, x := range []struct {
		c    api.Command
		want api.Sense
	}{
		{api.Command{Op: 0x1a, N: 255, Page: 8, Bits: 3}, saving},
		{api.Command{Op: 0x5a, N: 255, Page: 0x3f, Bits: 3}, saving},
		{api.Command{Op: 0x5a, N: 0, Page: 0x1c, Bits: 3}, saving},
		{api.Command{Op: 0x1a, N: 255, Page: 0, Bits: 3}, saving},
		{api.Command{Op: 0x1a, N: -1, Page: -1, Bits: 3}, saving},
		{api.Command{Op: 0x1a, N: 255}, field},
		{api.Command{Op: 0x5a, N: 255}, field},
		{api.Command{Op: 0x1a, N: 255, Page: 9}, field},
		{api.Command{Op: 0x1a, N: 0, Page: 7, Bits: 1}, field},
		{api.Command{Op: 0x1a, N: -1, Page: 0x40, Bits: 2}, field},
		{api.Command{Op: 0x5a, N: 255, Page: 0x108, Bits: 4}, field},
		{api.Command{}, field},
		{api.Command{Op: 0x12, N: 255, Page: 8}, field},
		{api.Command{Op: 0x12, N: 255, Page: 8, Bits: 3}, field},
		{api.Command{Op: 0x15, N: 255, Page: 8, Bits: 3}, field},
		{api.Command{Op: 0x55, N: 255, Page: 0x3f}, field},
		{api.Command{Op: 0x11a, N: 255, Page: 8}, field},
		{api.Command{Op: -0x5a, N: 255, Page: 8, Bits: 3}, field},
	} {
		for _, caching := range either {
			for _, protect := range either {
				if b, s := mode.Answer(x.c, caching, protect); len(b) != 0 || s != x.want {
					t.Errorf("%+v: % x %x, want %x", x.c, b, s, x.want)
				}
			}
		}
	}
}

// P8.1: Field, and no bytes, of every other op than both ModeSenses, those among them that are their numbers when they are cut, whatever the values.
func TestAnswerOther(t *testing.T) {
	for _, op := range append(around(-600, 70000), 0x1a-256, -0x1a, -0x5a, 1<<32+0x1a, 1<<32+0x5a, math.MinInt+0x1a, math.MinInt+0x5a) {
		if op == 0x1a || op == 0x5a {
			continue
		}
		for _, bits := range []int{0, 3} {
			if b, s := mode.Answer(api.Command{Op: op, N: 255, Page: 8, Bits: bits}, true, true); len(b) != 0 || s != field {
				t.Errorf("%x: % x %x", op, b, s)
			}
		}
	}
}

// P8.1: N below 0, 0, 1, one less than all, just all, and more, of each page and each sort of values, caching and protected, each or not: an answer is the beginning of what is told in full, and is as long as it says.
func TestAnswerAll(t *testing.T) {
	for _, c := range []api.Command{{Op: api.ModeSense6}, {Op: api.ModeSense10}} {
		for _, c.Page = range []int{-1, 0, 7, 8, 9, 0x1b, 0x1c, 0x1d, 0x3e, 0x3f, 0x40, 255, 256, 0x108, math.MaxInt} {
			for _, c.Bits = range append(around(-2, 5), 256, 257, 258, 259) {
				for i := range 4 {
					caching, protect := i&1 != 0, i&2 != 0
					c.N = math.MaxInt
					all, s := mode.Answer(c, caching, protect)
					if s == good && c.Op == api.ModeSense6 && len(all) != 1+int(all[0]) || s == good && c.Op == api.ModeSense10 && len(all) != 2+256*int(all[0])+int(all[1]) {
						t.Errorf("%+v: % x", c, all)
					}
					for _, c.N = range append(around(-2, 50), len(all)-1, len(all), len(all)+1, 255, 256, 65535) {
						checkAnswer(t, c, caching, protect)
						if b, _ := mode.Answer(c, caching, protect); !bytes.HasPrefix(all, b) {
							t.Errorf("%+v: % x of % x", c, b, all)
						}
					}
				}
			}
		}
	}
}

// P8.1: what is selected, written out.
func TestSelectTold(t *testing.T) {
	for _, x := range []struct {
		b                   string
		isTen, caching, got bool
	}{
		{"", false, true, true}, {"", false, false, false}, {"", true, true, true}, {"", true, false, false},
		{six, false, true, true}, {six, false, false, false}, {ten, true, true, true}, {ten, true, false, false},
		{"\x00\x00\x00\x08abcdefgh", false, true, true}, {"\x00\x00\x00\x00\x00\x00\x00\x08abcdefgh", true, true, true},
		{"\x00\x00\x00\x08abcdefgh", false, false, false}, {"\x00\x00\x00\x00\x00\x00\x00\x08abcdefgh", true, false, false},
		{six + on, false, false, true}, {six + on, false, true, true}, {six + off, false, true, false}, {six + off, false, false, false},
		{ten + on, true, false, true}, {ten + on, true, true, true}, {ten + off, true, true, false}, {ten + off, true, false, false},
		{six + last, false, true, true}, {six + last, false, false, false}, {ten + last, true, true, true}, {ten + last, true, false, false},
		{six + on + last, false, false, true}, {six + last + on, false, false, true}, {six + off + last, false, true, false}, {six + last + off, false, true, false},
		{six + on + off, false, true, false}, {six + off + on, false, false, true}, {ten + on + off, true, true, false}, {ten + off + on, true, false, true},
		{six + on + on + off, false, true, false}, {six + off + off + on, false, false, true}, {six + last + last, false, true, true}, {six + on + last + off + last, false, true, false}, {ten + off + last + last + on + last, true, false, true},
		{"\x17\x00\x80\x08abcdefgh" + on, false, false, true}, {"\xff\xff\xff\xff\xff\xff\x00\x08" + on[:8] + off, true, true, false},
		{"\x00\x00\x00\x08" + on[:8] + last + off, false, true, false},
	} {
		if got, s := mode.Select([]byte(x.b), x.isTen, x.caching); got != x.got || s != good {
			t.Errorf("% x, %v, %v: %v %x", x.b, x.isTen, x.caching, got, s)
		}
		checkSelect(t, x.b, x.isTen)
	}
}

// P8.1: parameters that may not be, written out: which sense it is, and that nothing is selected beside it.
func TestSelectWrong(t *testing.T) {
	for _, x := range []struct {
		b     string
		isTen bool
		want  api.Sense
	}{
		{"\x00", false, length}, {"\x00\x00\x00", false, length}, {six[:3], false, length}, {"\x00", true, length}, {six, true, length}, {ten[:7], true, length},
		{"\x00\x00\x00\x08", false, length}, {"\x00\x00\x00\x08abcdefg", false, length}, {"\x00\x00\x00\x00\x00\x00\x00\x08", true, length}, {"\x00\x00\x00\x00\x00\x00\x00\x08abcdefg", true, length},
		{"\x00\x00\x00\x01", false, parameter}, {"\x00\x00\x00\x07", false, parameter}, {"\x00\x00\x00\x09", false, parameter}, {"\x00\x00\x00\x10", false, parameter}, {"\x00\x00\x00\xff", false, parameter}, {"\x00\x00\x00\x88abcdefgh", false, parameter}, {"\x00\x00\x00\x10abcdefghabcdefgh" + on, false, parameter},
		{"\x00\x00\x00\x00\x00\x00\x00\x01", true, parameter}, {"\x00\x00\x00\x00\x00\x00\x01\x00", true, parameter}, {"\x00\x00\x00\x00\x00\x00\x01\x08abcdefgh", true, parameter}, {"\x00\x00\x00\x00\x00\x00\x08\x00abcdefgh", true, parameter}, {"\x00\x00\x00\x00\x00\x00\xff\xff", true, parameter},
		{six + "\x08", false, length}, {six + "\x1c", false, length}, {six + "\x00", false, length}, {ten + "\x08", true, length}, {six + on + "\x08", false, length}, {six + on + "\x00", false, length},
		{six + on[:2], false, length}, {six + on[:19], false, length}, {ten + on[:19], true, length}, {six + last[:11], false, length}, {ten + last[:11], true, length}, {six + last + on[:19], false, length}, {six + on + last[:2], false, length}, {six + "\x09\x01", false, length}, {six + "\x08\xff" + on[2:], false, length},
		{six + "\x08\x00", false, parameter}, {six + "\x1c\x00", false, parameter}, {six + "\x00\x00", false, parameter}, {six + "\x3f\x00", false, parameter}, {six + "\x08\x11" + on[2:19], false, parameter}, {six + "\x08\x13" + on[2:] + "\x00", false, parameter}, {ten + "\x1c\x09" + last[2:11], true, parameter}, {ten + "\x1c\x0b" + last[2:] + "\x00", true, parameter},
		{six + "\x08\x0a" + last[2:], false, parameter}, {six + "\x1c\x12" + off[2:], false, parameter}, {six + "\x88\x12" + on[2:], false, parameter}, {six + "\x9c\x0a" + last[2:], false, parameter}, {six + "\x48\x12" + on[2:], false, parameter},
		{six + "\x08\x12\x05" + on[3:], false, parameter}, {six + "\x08\x12\x01" + on[3:], false, parameter}, {six + "\x08\x12\x84" + on[3:], false, parameter}, {six + on[:19] + "\x01", false, parameter}, {six + last[:11] + "\x01", false, parameter}, {six + "\x1c\x0a\x04" + last[3:], false, parameter},
		{six + on + "\x09\x00", false, parameter}, {six + "\x09\x00" + on, false, parameter}, {six + on + on[:19] + "\x80", false, parameter},
		// The first fault counts, whatever comes behind it.
		{six + "\x09\x00\x08", false, parameter}, {six + "\x08\x12\x05" + on[3:] + "\x08", false, parameter}, {"\x00\x00\x00\x07\x08", false, parameter}, {"\x00\x00\x00\x08abc", false, length}, {six + "\x09\x05abcd", false, length},
	} {
		for _, caching := range either {
			if got, s := mode.Select([]byte(x.b), x.isTen, caching); got || s != x.want {
				t.Errorf("% x, %v, %v: %v %x, want %x", x.b, x.isTen, caching, got, s, x.want)
			}
		}
		checkSelect(t, x.b, x.isTen)
	}
}

// P8.1: each number of descriptors, in one byte and in two, with no bytes behind the header, fewer than these, just these, and pages behind them.
func TestSelectHeaders(t *testing.T) {
	behind := []string{"", "a", "abcdefg", "abcdefgh", on, "abcdefgh" + off, "abcdefgh" + on + "\x08", strings.Repeat("a", 255)}
	for n := range 65536 {
		for _, rest := range behind {
			if n < 256 {
				checkSelect(t, "\xff\x08\x08"+string([]byte{byte(n)})+rest, false)
			}
			checkSelect(t, "\xff\x08\x08\x08\x08\x08"+string([]byte{byte(n >> 8), byte(n)})+rest, true)
		}
	}
}

// P8.1: a header's other bytes, and descriptors, may be anything.
func TestSelectAnything(t *testing.T) {
	for _, isTen := range either {
		header := "\x00\x00\x00\x08"
		told := 1
		if isTen {
			header = "\x00\x00\x00\x00\x00\x00\x00\x08"
			told = 2
		}
		was := header + "\x00\x00\x00\x00\x00\x00\x00\x00" + on
		for i := range len(header) + 8 {
			if i >= len(header)-told && i < len(header) {
				continue
			}
			for x := range 256 {
				b := []byte(was)
				b[i] = byte(x)
				if got, s := mode.Select(b, isTen, false); !got || s != good {
					t.Errorf("% x: %v %x", b, got, s)
				}
			}
		}
	}
}

// P8.1: parameters that end anywhere: just behind a page they are good, else too early.
func TestSelectEnds(t *testing.T) {
	for _, pages := range []string{on + last + off, last + off + on, off + off + last + last + on} {
		for size := range len(pages) + 1 {
			checkBoth(t, pages[:size])
		}
	}
	for _, x := range []struct {
		b     string
		isTen bool
	}{{six + on + last, false}, {ten + on + last, true}, {"\x00\x00\x00\x08abcdefgh" + on, false}, {"\x00\x00\x00\x00\x00\x00\x00\x08abcdefgh" + last, true}} {
		for size := range len(x.b) + 1 {
			checkSelect(t, x.b[:size], x.isTen)
		}
	}
}

// P8.1: each bit of each byte of the pages another one: just bit 2 of page 8's third byte may be.
func TestSelectBits(t *testing.T) {
	for _, was := range []string{on, off, last} {
		for i := range 8 * len(was) {
			b := []byte(was)
			b[i/8] ^= 1 << (i % 8)
			got, s := mode.Select(append([]byte(six), b...), false, was == off)
			if may := i == 2*8+2 && was != last; may != (s == good) || may && got != (was == off) {
				t.Errorf("bit %d of byte %d of % x: %v %x", i%8, i/8, was, got, s)
			}
			for _, beside := range []string{"", on, off, last} {
				checkBoth(t, string(b)+beside)
				checkBoth(t, beside+string(b))
			}
		}
	}
}

// P8.1: each byte of the pages any other one.
func TestSelectBytes(t *testing.T) {
	for _, was := range []string{on, off, last} {
		for i := range was {
			for x := range 256 {
				b := []byte(was)
				b[i] = byte(x)
				checkSelect(t, six+string(b), false)
				checkSelect(t, ten+string(b)+last, true)
			}
		}
	}
}

// P8.1: pages of each number and each length that they may say, one byte short, just so long, and one byte longer.
func TestSelectLengths(t *testing.T) {
	for n := range 256 {
		for size := range 256 {
			head := string([]byte{byte(n), byte(size)})
			for _, first := range []string{"\x00", "\x04"} {
				body := (first + strings.Repeat("\x00", 256))[:size+1]
				checkSelect(t, six+head+body[1:], false)
				checkSelect(t, six+head+body[:size], false)
				checkSelect(t, ten+head+body, true)
				if size > 0 {
					checkSelect(t, ten+head+body[:size-1], true)
				}
			}
		}
	}
}

// P8.1: pages twice and more, and unlike ones, in each order: the last page 8 counts.
func TestSelectOrders(t *testing.T) {
	kinds := []string{on, off, last}
	for count := range 6 {
		ways := 1
		for range count {
			ways *= len(kinds)
		}
		for way := range ways {
			pages, want := "", 2
			for range count {
				pages += kinds[way%3]
				if way%3 != 2 {
					want = way % 3
				}
				way /= 3
			}
			checkBoth(t, pages)
			for _, caching := range either {
				is, s := mode.Select([]byte(six+pages), false, caching)
				if told := want == 0 || want == 2 && caching; is != told || s != good {
					t.Errorf("% x, %v: %v %x", pages, caching, is, s)
				}
			}
		}
	}
}

// P8.1: any parameters, most of them nearly right.
func TestSelectAny(t *testing.T) {
	r := rand.New(rand.NewPCG(8, 1))
	pieces := []string{on, on, off, off, last, last, "\x08", "\x1c\x0a", "\x08\x12", "\x00\x00", "\x00", "\x04", "\x08\x00", "abcdefgh"}
	headers := []string{six, ten, "\x00\x00\x00\x08abcdefgh", "\x00\x00\x00\x00\x00\x00\x00\x08abcdefgh", ""}
	for range 200000 {
		b := headers[r.IntN(len(headers))]
		for range r.IntN(6) {
			b += pieces[r.IntN(len(pieces))]
		}
		if len(b) > 0 && r.IntN(3) == 0 {
			spoilt := []byte(b)
			spoilt[r.IntN(len(b))] ^= 1 << r.IntN(8)
			b = string(spoilt)
		}
		if r.IntN(3) == 0 {
			b = b[:r.IntN(len(b)+1)]
		}
		checkSelect(t, b, false)
		checkSelect(t, b, true)
	}
}

// P8.2: what is told of the values as they are, sent back, its first byte, or two, anything, changes nothing.
func TestThereAndBack(t *testing.T) {
	for _, n := range []int{8, 0x1c, 0x3f} {
		for i := range 4 {
			caching, protect := i&1 != 0, i&2 != 0
			b, s := mode.Answer(api.Command{Op: api.ModeSense6, N: 255, Page: n}, caching, protect)
			if s != good || len(b) == 0 {
				t.Fatalf("%x: % x %x", n, b, s)
			}
			for x := range 256 {
				b[0] = byte(x)
				if got, s := mode.Select(b, false, caching); got != caching || s != good {
					t.Errorf("% x: %v %x, was %v", b, got, s, caching)
				}
			}
			b, s = mode.Answer(api.Command{Op: api.ModeSense10, N: 255, Page: n}, caching, protect)
			if s != good || len(b) == 0 {
				t.Fatalf("%x: % x %x", n, b, s)
			}
			for x := range 65536 {
				b[0], b[1] = byte(x>>8), byte(x)
				if got, s := mode.Select(b, true, caching); got != caching || s != good {
					t.Errorf("% x: %v %x, was %v", b, got, s, caching)
				}
			}
		}
	}
}

// P8.2: what is selected is told: behind parameters that are good the values as they are hold the page that was sent last, whatever was before.
func TestSelectedIsTold(t *testing.T) {
	for _, c := range []api.Command{{Op: api.ModeSense6, N: 255}, {Op: api.ModeSense10, N: 255}} {
		for _, caching := range either {
			for _, pages := range []string{on, off, last + on, off + last, on + off, off + on} {
				sent, isTen := six+pages, c.Op == api.ModeSense10
				if isTen {
					sent = ten + pages
				}
				is, s := mode.Select([]byte(sent), isTen, caching)
				if s != good {
					t.Fatalf("% x: %x", sent, s)
				}
				want := pages[max(strings.LastIndex(pages, on), strings.LastIndex(pages, off)):][:20]
				c.Page = 8
				if b, s := mode.Answer(c, is, false); !strings.HasSuffix(string(b), want) || s != good {
					t.Errorf("% x: % x %x", sent, b, s)
				}
				c.Page = 0x3f
				if b, s := mode.Answer(c, is, true); !strings.HasSuffix(string(b), want+last) || s != good {
					t.Errorf("% x: % x %x", sent, b, s)
				}
			}
		}
	}
}

// P8.2: what may be changed is what may be selected: the one bit that is told of page 8.
func TestChangeable(t *testing.T) {
	for _, n := range []int{8, 0x1c} {
		now, _ := mode.Page(n, 0, false)
		may, _ := mode.Page(n, 1, false)
		for i := 2 * 8; i < 8*len(now); i++ {
			b := append([]byte(six), now...)
			b[len(six)+i/8] ^= 1 << (i % 8)
			if _, s := mode.Select(b, false, false); (s == good) != (may[i/8]>>(i%8)&1 == 1) {
				t.Errorf("bit %d of byte %d of page %x: %x", i%8, i/8, n, s)
			}
		}
	}
}

// P8.1: what was handed in, its spare room too, is as it was behind each call, and nothing hangs on that room.
func TestSelectStays(t *testing.T) {
	for _, isTen := range either {
		for _, header := range []string{six, ten, "\x00\x00\x00\x08abcdefgh", "\x00\x00\x00\x00\x00\x00\x00\x08abcdefgh"} {
			for _, pages := range []string{on + last + off, last + on + on, on + "\x08\x12\x05" + on[3:], "\x09\x00" + on, ""} {
				was := header + pages + on
				room := []byte(was)
				for size := range len(room) + 1 {
					for _, caching := range either {
						want, wantS := selected(was[:size], isTen, caching)
						if got, s := mode.Select(room[:size], isTen, caching); got != want || s != wantS {
							t.Errorf("% x, %v, %v: %v %x, want %v %x", was[:size], isTen, caching, got, s, want, wantS)
						}
						if string(room) != was {
							t.Fatalf("% x, was % x", room, was)
						}
					}
				}
			}
		}
	}
}

// scratch writes into an answer, its spare room too.
func scratch(b []byte) {
	b = b[:cap(b)]
	for i := range b {
		b[i] ^= 0xa5
	}
}

// P8.1: what is answered is new memory: who writes into it, or lets it grow, changes no other answer.
func TestNew(t *testing.T) {
	for _, n := range []int{8, 0x1c, 0x3f} {
		for _, caching := range either {
			first, _ := mode.Page(n, 0, caching)
			second, _ := mode.Page(n, 0, caching)
			scratch(first)
			if want, _ := page(n, 0, caching); string(second) != want {
				t.Errorf("%x: % x", n, second)
			}
			checkPage(t, n, 0, caching)
			for _, c := range []api.Command{{Op: api.ModeSense6, N: 255, Page: n}, {Op: api.ModeSense10, N: 9, Page: n}} {
				first, _ := mode.Answer(c, caching, true)
				second, _ := mode.Answer(c, caching, true)
				scratch(first)
				if want, _ := answer(c, caching, true); string(second) != want {
					t.Errorf("%+v: % x", c, second)
				}
				checkAnswer(t, c, caching, true)
			}
		}
	}
}
