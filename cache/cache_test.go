package cache_test

import (
	"math"
	"math/rand/v2"
	"slices"
	"testing"

	"reticule/api"
	"reticule/cache"
)

// extremes are whole numbers that wrap round when something is added to them, or taken off, or that fit when they are cut.
var extremes = []int{math.MinInt, math.MinInt + 1, math.MinInt + 64, math.MinInt32, math.MaxInt32, 1 << 32, 1<<32 + 1, math.MaxInt - 64, math.MaxInt - 1, math.MaxInt}

// around is the whole numbers from low to high, and the extremes.
func around(low, high int) []int {
	l := slices.Clone(extremes)
	for i := low; i <= high; i++ {
		l = append(l, i)
	}
	return l
}

// lasts is what block i of the tests' media lasts as: no two are the same, and none is the data of a write.
func lasts(i int) (b api.Block) {
	for j := range b {
		b[j] = byte(j)
	}
	b[0], b[63] = byte(i), 1
	return b
}

// wrote is the data of write i of the tests' media: no two of 256 are the same.
func wrote(i int) (b api.Block) {
	for j := range b {
		b[j] = byte(100 + j)
	}
	b[0], b[63] = byte(i), 2
	return b
}

// medium is so many blocks, and cached writes of these, one behind the other.
func medium(blocks int, ats ...int) api.Medium {
	m := api.Medium{Blocks: make([]api.Block, blocks)}
	for i := range m.Blocks {
		m.Blocks[i] = lasts(i)
	}
	for i, at := range ats {
		m.Dirty = append(m.Dirty, api.Dirty{At: at, Data: wrote(i)})
	}
	return m
}

// turns is of which blocks so many cached writes are: of one of so many after the other.
func turns(writes, blocks int) []int {
	l := make([]int, writes)
	for i := range l {
		l[i] = i * 11 % blocks
	}
	return l
}

// clone is the same medium in memory of its own.
func clone(m api.Medium) api.Medium {
	return api.Medium{Blocks: slices.Clone(m.Blocks), Dirty: slices.Clone(m.Dirty)}
}

// same: are they the same, block by block and write by write?
func same(a, b api.Medium) bool {
	return slices.Equal(a.Blocks, b.Blocks) && slices.Equal(a.Dirty, b.Dirty)
}

// none: is it the zero medium, that comes beside an error?
func none(m api.Medium) bool { return len(m.Blocks) == 0 && len(m.Dirty) == 0 }

// history is all that a block was, one behind the other: what lasts, then each write of it that is cached.
func history(m api.Medium, at int) []api.Block {
	l := []api.Block{m.Blocks[at]}
	for _, d := range m.Dirty {
		if d.At == at {
			l = append(l, d.Data)
		}
	}
	return l
}

// shown is what a block shows, by its history.
func shown(m api.Medium, at int) api.Block {
	l := history(m, at)
	return l[len(l)-1]
}

// flushed is the medium behind a flush of the blocks that are meant, by their histories.
func flushed(m api.Medium, meant func(at int) bool) api.Medium {
	after := api.Medium{}
	for at, b := range m.Blocks {
		if meant(at) {
			b = shown(m, at)
		}
		after.Blocks = append(after.Blocks, b)
	}
	for _, d := range m.Dirty {
		if !meant(d.At) {
			after.Dirty = append(after.Dirty, d)
		}
	}
	return after
}

// media are some that may be: of no blocks, of one, of several, and of as many as there may be, with no write, with some, and with as many as there may be.
func media() []api.Medium {
	l := []api.Medium{{}, {Blocks: []api.Block{}, Dirty: []api.Dirty{}}}
	for _, blocks := range []int{1, 2, 5, 63, 64} {
		for _, writes := range []int{0, 1, 2, 7, 63, 64} {
			l = append(l, medium(blocks, turns(writes, blocks)...))
		}
	}
	return append(l, medium(4, 2, 2, 2), medium(4, 0, 3, 0, 3, 0), medium(3, 2, 1, 0, 0, 1, 2))
}

// wrongs are media that may not be, and why.
func wrongs() map[string]api.Medium {
	long := make([]api.Dirty, 65)
	return map[string]api.Medium{
		"65 blocks":                          medium(65),
		"65 blocks, a write":                 medium(65, 0),
		"65 blocks, a write of the last one": medium(65, 64),
		"1000 blocks":                        medium(1000),
		"65 writes":                          {Blocks: make([]api.Block, 64), Dirty: long},
		"65 writes of one block":             {Blocks: make([]api.Block, 1), Dirty: long},
		"65 blocks, 65 writes":               {Blocks: make([]api.Block, 65), Dirty: long},
		"1000 writes":                        medium(64, turns(1000, 64)...),
		"no block, a write":                  medium(0, 0),
		"no block, a write below 0":          medium(0, -1),
		"a write behind the only block":      medium(1, 1),
		"a write below 0":                    medium(1, -1),
		"a write behind the last one":        medium(64, 64),
		"the first write is behind":          medium(5, 5, 4, 3),
		"a write between is behind":          medium(5, 3, 5, 4),
		"the last write is behind":           medium(5, 3, 4, 5),
		"the first write is below 0":         medium(5, -1, 4, 3),
		"a write between is below 0":         medium(5, 3, -1, 4),
		"the last write is below 0":          medium(5, 3, 4, -1),
		"the 64th write is behind":           medium(5, append(turns(63, 5), 5)...),
		"a write of the least":               medium(5, math.MinInt),
		"a write of the greatest":            medium(5, math.MaxInt),
		"a write whose lower half is there":  medium(5, 1<<32),
		"a write whose lowest byte is there": medium(5, 256),
	}
}

// P3.1: Right, of as many blocks and writes as may be, and of one more.
func TestRight(t *testing.T) {
	for i, m := range media() {
		if !cache.Right(m) {
			t.Error(i, "may be")
		}
	}
	for why, m := range wrongs() {
		if cache.Right(m) {
			t.Error(why, "may not be")
		}
	}
	for _, blocks := range []int{0, 1, 63, 64, 65, 66, 128, 256} {
		if got := cache.Right(medium(blocks)); got != (blocks <= 64) {
			t.Error(blocks, "blocks", got)
		}
		for _, writes := range []int{0, 1, 63, 64, 65, 66, 128, 256} {
			m := medium(blocks, make([]int, writes)...)
			want := blocks <= 64 && writes <= 64 && (blocks > 0 || writes == 0)
			if got := cache.Right(m); got != want {
				t.Error(blocks, "blocks,", writes, "writes", got)
			}
		}
	}
	for _, at := range around(-70, 70) {
		if got := cache.Right(medium(64, 0, at, 0)); got != (at >= 0 && at < 64) {
			t.Error("a write of", at, got)
		}
	}
	if api.MaxBlocks != 64 || api.MaxDirty != 64 {
		t.Error(api.MaxBlocks, api.MaxDirty)
	}
}

// P3.1: of a medium that may not be all calls tell ErrArg, whatever else is wrong, and nothing beside it.
func TestWrongMedia(t *testing.T) {
	for why, m := range wrongs() {
		was := clone(m)
		for _, at := range around(-2, 66) {
			if b, e := cache.Show(m, at); e != api.ErrArg || b != (api.Block{}) {
				t.Error(why, "Show", at, e)
			}
			for _, through := range []bool{false, true} {
				if x, e := cache.Write(m, at, wrote(9), through); e != api.ErrArg || !none(x) {
					t.Error(why, "Write", at, through, e)
				}
			}
			for _, n := range []int{math.MinInt, -1, 0, 1, 64, math.MaxInt} {
				if x, e := cache.Flush(m, at, n); e != api.ErrArg || !none(x) {
					t.Error(why, "Flush", at, n, e)
				}
			}
		}
		for _, mask := range []uint64{0, 1, math.MaxUint64} {
			if x, e := cache.Lose(m, mask); e != api.ErrArg || !none(x) {
				t.Error(why, "Lose", mask, e)
			}
		}
		if l := cache.All(m); len(l) != 0 {
			t.Error(why, "All", len(l))
		}
		if !same(m, was) {
			t.Error(why, "changed")
		}
	}
}

// P3.1: Show, of each block, and of those that there aren't.
func TestShow(t *testing.T) {
	for i, m := range media() {
		for _, at := range around(-3, 70) {
			var want api.Block
			wrong := api.ErrRange
			if at >= 0 && at < len(m.Blocks) {
				want, wrong = shown(m, at), api.OK
			}
			if b, e := cache.Show(m, at); e != wrong || b != want {
				t.Errorf("medium %d, block %d: %v, %d, want %d", i, at, b, e, wrong)
			}
		}
	}
}

// P3.1: the blocks that the chapter names, written out.
func TestShowEdges(t *testing.T) {
	m := medium(5, 4, 0, 4, 1)
	for _, c := range []struct {
		at   int
		want api.Block
		e    api.Errno
	}{
		{0, wrote(1), api.OK},
		{1, wrote(3), api.OK},
		{2, lasts(2), api.OK},
		{4, wrote(2), api.OK}, // the last of its two
		{5, api.Block{}, api.ErrRange},
		{-1, api.Block{}, api.ErrRange},
	} {
		if b, e := cache.Show(m, c.at); b != c.want || e != c.e {
			t.Errorf("%d: %v, %d", c.at, b, e)
		}
	}
	if _, e := cache.Show(api.Medium{}, 0); e != api.ErrRange {
		t.Error("the first of none", e)
	}
	if b, e := cache.Show(medium(64), 63); b != lasts(63) || e != api.OK {
		t.Error("the last of 64", e)
	}
	if _, e := cache.Show(medium(64), 64); e != api.ErrRange {
		t.Error("behind 64", e)
	}
}

// P3.1: All is what Show says of each block.
func TestAll(t *testing.T) {
	for i, m := range media() {
		l := cache.All(m)
		if len(l) != len(m.Blocks) {
			t.Fatal(i, len(l))
		}
		for at, b := range l {
			if b != shown(m, at) {
				t.Error(i, at, b)
			}
			if c, e := cache.Show(m, at); c != b || e != api.OK {
				t.Error(i, at, "is shown otherwise", e)
			}
		}
	}
	want := []api.Block{wrote(1), lasts(1), wrote(3)}
	if l := cache.All(medium(3, 2, 0, 2, 2)); !slices.Equal(l, want) {
		t.Error(l)
	}
}

// written is the medium that Write must answer, and its error.
func written(m api.Medium, at int, data api.Block, through bool) (api.Medium, api.Errno) {
	if at < 0 || at >= len(m.Blocks) {
		return api.Medium{}, api.ErrRange
	}
	if through {
		after := flushed(m, func(i int) bool { return i == at })
		after.Blocks[at] = data
		return after, api.OK
	}
	after := clone(m)
	if len(m.Dirty) == 64 {
		after = flushed(m, func(int) bool { return true })
	}
	after.Dirty = append(after.Dirty, api.Dirty{At: at, Data: data})
	return after, api.OK
}

// P3.1: Write, of each block, and of those that there aren't, cached or not.
func TestWrite(t *testing.T) {
	for i, m := range media() {
		for _, at := range around(-3, 70) {
			for _, through := range []bool{false, true} {
				want, wrong := written(m, at, wrote(200), through)
				x, e := cache.Write(m, at, wrote(200), through)
				if e != wrong || !same(x, want) {
					t.Errorf("medium %d, block %d, %v: %d blocks, %d writes, %d, want %d", i, at, through, len(x.Blocks), len(x.Dirty), e, wrong)
				}
				if e == api.OK && !cache.Right(x) {
					t.Errorf("medium %d, block %d, %v: may not be", i, at, through)
				}
			}
		}
	}
}

// P3.1: a write that goes through while others of that block, and of others, are cached: these stay, in their order.
func TestWriteThrough(t *testing.T) {
	x, e := cache.Write(medium(4, 2, 0, 2, 3, 0, 2), 2, wrote(50), true)
	want := medium(4)
	want.Blocks[2] = wrote(50)
	want.Dirty = []api.Dirty{{At: 0, Data: wrote(1)}, {At: 3, Data: wrote(3)}, {At: 0, Data: wrote(4)}}
	if e != api.OK || !same(x, want) {
		t.Error(x, e)
	}
	x, e = cache.Write(medium(4, 0, 3), 2, wrote(50), true)
	want.Dirty = []api.Dirty{{At: 0, Data: wrote(0)}, {At: 3, Data: wrote(1)}}
	if e != api.OK || !same(x, want) {
		t.Error("none of that block", x, e)
	}
	x, e = cache.Write(medium(4, 2, 2), 2, wrote(50), true)
	want.Dirty = nil
	if e != api.OK || !same(x, want) {
		t.Error("of that block alone", x, e)
	}
}

// P3.1: one that goes through needs no room: of 64 cached writes those of other blocks stay.
func TestWriteThroughFull(t *testing.T) {
	ats := make([]int, 64)
	for i := range ats {
		ats[i] = i % 2
	}
	x, e := cache.Write(medium(3, ats...), 2, wrote(70), true)
	if e != api.OK || len(x.Dirty) != 64 || x.Blocks[2] != wrote(70) || x.Blocks[0] != lasts(0) || x.Blocks[1] != lasts(1) {
		t.Error("none of that block", len(x.Dirty), e)
	}
	x, e = cache.Write(medium(3, ats...), 1, wrote(70), true)
	if e != api.OK || len(x.Dirty) != 32 || x.Blocks[1] != wrote(70) || x.Blocks[0] != lasts(0) {
		t.Error("half of that block", len(x.Dirty), e)
	}
}

// P3.1: the writes are cached as they come; ahead of the 65th one, and of no other, all is flushed.
func TestWriteFull(t *testing.T) {
	m := medium(5)
	for i := range 200 {
		before := len(m.Dirty)
		x, e := cache.Write(m, i%5, wrote(i), false)
		if e != api.OK || len(x.Dirty) != i%64+1 {
			t.Fatal(i, len(x.Dirty), e)
		}
		if last := x.Dirty[len(x.Dirty)-1]; last.At != i%5 || last.Data != wrote(i) {
			t.Error(i, "isn't the last one")
		}
		if before == 64 && !slices.Equal(x.Blocks, cache.All(m)) {
			t.Error(i, "not all is flushed")
		}
		if before < 64 && !slices.Equal(x.Blocks, m.Blocks) {
			t.Error(i, "something is flushed")
		}
		m = x
	}
	for _, c := range []struct{ before, after int }{{0, 1}, {62, 63}, {63, 64}, {64, 1}} {
		if x, e := cache.Write(medium(5, turns(c.before, 5)...), 0, wrote(99), false); e != api.OK || len(x.Dirty) != c.after {
			t.Error(c.before, "cached:", len(x.Dirty), e)
		}
	}
	for _, at := range []int{5, -1} {
		if x, e := cache.Write(medium(5, turns(64, 5)...), at, wrote(99), false); e != api.ErrRange || !none(x) {
			t.Error("64 cached, block", at, e)
		}
	}
}

// meant: is block i among n from at on, or, if n is 0, among all from at on?
func meant(i, at, n int) bool {
	return i >= at && (n == 0 || i-at < n)
}

// P3.1: Flush, from each block on, and of as many.
func TestFlush(t *testing.T) {
	for i, m := range media() {
		count := len(m.Blocks)
		for _, at := range around(-3, 67) {
			for _, n := range around(-3, 67) {
				x, e := cache.Flush(m, at, n)
				if at < 0 || n < 0 || at > count {
					if e != api.ErrRange || !none(x) {
						t.Errorf("medium %d, %d from %d on: %d", i, n, at, e)
					}
					continue
				}
				if want := flushed(m, func(b int) bool { return meant(b, at, n) }); e != api.OK || !same(x, want) {
					t.Errorf("medium %d, %d from %d on: %d writes, %d, want %d writes", i, n, at, len(x.Dirty), e, len(want.Dirty))
				}
			}
		}
	}
}

// P3.1: the cases that the chapter names, written out.
func TestFlushEdges(t *testing.T) {
	m := medium(5, 0, 4, 2, 0, 4)
	for _, c := range []struct {
		name  string
		at, n int
		left  []int // of which blocks writes stay cached
		e     api.Errno
	}{
		{"all", 0, 0, nil, api.OK},
		{"just all", 0, 5, nil, api.OK},
		{"one more than all", 0, 6, nil, api.OK},
		{"the greatest", 0, math.MaxInt, nil, api.OK},
		{"one less than all", 0, 4, []int{4, 4}, api.OK},
		{"the first", 0, 1, []int{4, 2, 4}, api.OK},
		{"all but the first", 1, 0, []int{0, 0}, api.OK},
		{"from 1 on, the greatest", 1, math.MaxInt, []int{0, 0}, api.OK},
		{"from 1 on, the last but for one", 1, 3, []int{0, 4, 0, 4}, api.OK},
		{"none that is cached", 1, 1, []int{0, 4, 2, 0, 4}, api.OK},
		{"the last", 4, 1, []int{0, 2, 0}, api.OK},
		{"from the last on", 4, 0, []int{0, 2, 0}, api.OK},
		{"from the last on, more", 4, 2, []int{0, 2, 0}, api.OK},
		{"from the last on, the greatest", 4, math.MaxInt, []int{0, 2, 0}, api.OK},
		{"behind the last", 5, 0, []int{0, 4, 2, 0, 4}, api.OK},
		{"one behind the last", 5, 1, []int{0, 4, 2, 0, 4}, api.OK},
		{"behind the last, the greatest", 5, math.MaxInt, []int{0, 4, 2, 0, 4}, api.OK},
		{"further behind", 6, 0, nil, api.ErrRange},
		{"further behind, one", 6, 1, nil, api.ErrRange},
		{"from the greatest on", math.MaxInt, 0, nil, api.ErrRange},
		{"from the greatest on, the greatest", math.MaxInt, math.MaxInt, nil, api.ErrRange},
		{"from below 0 on", -1, 0, nil, api.ErrRange},
		{"from below 0 on, some", -1, 3, nil, api.ErrRange},
		{"from the least on", math.MinInt, math.MaxInt, nil, api.ErrRange},
		{"below 0", 0, -1, nil, api.ErrRange},
		{"below 0, behind the last", 5, -1, nil, api.ErrRange},
		{"the least", 2, math.MinInt, nil, api.ErrRange},
		{"both below 0", -1, -1, nil, api.ErrRange},
	} {
		x, e := cache.Flush(m, c.at, c.n)
		var left []int
		for _, d := range x.Dirty {
			left = append(left, d.At)
		}
		if e != c.e || !slices.Equal(left, c.left) {
			t.Error(c.name, left, e)
		}
	}
	if x, e := cache.Flush(m, 0, 1); e != api.OK || x.Blocks[0] != wrote(3) || x.Blocks[4] != lasts(4) {
		t.Error("the last write of the first block must be done", e)
	}
	for _, n := range []int{0, 1, math.MaxInt} {
		if x, e := cache.Flush(api.Medium{}, 0, n); e != api.OK || !none(x) {
			t.Error("of none", n, e)
		}
		if _, e := cache.Flush(api.Medium{}, 1, n); e != api.ErrRange {
			t.Error("behind none", n, e)
		}
	}
}

// lost is what lasts when the power goes, block by block: the last of its writes that was done, or what lasted.
func lost(m api.Medium, mask uint64) api.Medium {
	left := clone(m)
	left.Dirty = nil
	for at := range left.Blocks {
		for i := len(m.Dirty) - 1; i >= 0; i-- {
			if m.Dirty[i].At == at && mask&(1<<i) != 0 {
				left.Blocks[at] = m.Dirty[i].Data
				break
			}
		}
	}
	return left
}

// P3.1: Lose, by masks of no bit, of one, of all but one, of all, and of bits behind the writes.
func TestLose(t *testing.T) {
	all := uint64(math.MaxUint64)
	masks := []uint64{0, all, 0x5555555555555555, 0xaaaaaaaaaaaaaaaa, 0x0123456789abcdef}
	for i := range 64 {
		masks = append(masks, 1<<i, all^1<<i, all<<i, 1<<i-1)
	}
	for i, m := range media() {
		for _, mask := range masks {
			if x, e := cache.Lose(m, mask); e != api.OK || !same(x, lost(m, mask)) {
				t.Errorf("medium %d, %x: %d writes, %d", i, mask, len(x.Dirty), e)
			}
		}
	}
}

// P3.1: several writes of one block, and the chapter's example.
func TestLoseEdges(t *testing.T) {
	m := medium(4, 3, 3, 1, 3)
	for _, c := range []struct {
		mask       uint64
		one, three api.Block
	}{
		{0, lasts(1), lasts(3)},
		{1, lasts(1), wrote(0)},
		{2, lasts(1), wrote(1)},
		{3, lasts(1), wrote(1)},
		{4, wrote(2), lasts(3)},
		{5, wrote(2), wrote(0)},
		{8, lasts(1), wrote(3)},
		{9, lasts(1), wrote(3)},
		{15, wrote(2), wrote(3)},
		{16, lasts(1), lasts(3)},
		{1 << 63, lasts(1), lasts(3)},
		{math.MaxUint64, wrote(2), wrote(3)},
	} {
		x, e := cache.Lose(m, c.mask)
		want := []api.Block{lasts(0), c.one, lasts(2), c.three}
		if e != api.OK || len(x.Dirty) != 0 || !slices.Equal(x.Blocks, want) {
			t.Errorf("%x: %v, %d", c.mask, x, e)
		}
	}
	twice := medium(4)
	twice, _ = cache.Write(twice, 3, wrote(1), false)
	twice, _ = cache.Write(twice, 3, wrote(2), false)
	if x, e := cache.Lose(twice, 1); e != api.OK || x.Blocks[3] != wrote(1) || len(x.Dirty) != 0 {
		t.Error("the first one's data", x, e)
	}
	if x, e := cache.Lose(medium(2, append(make([]int, 63), 1)...), 1<<63); e != api.OK || x.Blocks[0] != lasts(0) || x.Blocks[1] != wrote(63) {
		t.Error("the 64th alone", e)
	}
}

// P3.2: flushing changes nothing of what is shown, whatever is flushed.
func TestFlushShowsTheSame(t *testing.T) {
	for i, m := range media() {
		was := cache.All(m)
		for at := range len(m.Blocks) + 1 {
			for _, n := range []int{0, 1, 2, 3, 63, 64, 65, math.MaxInt} {
				x, e := cache.Flush(m, at, n)
				if e != api.OK || !slices.Equal(cache.All(x), was) {
					t.Error(i, at, n, e)
				}
			}
		}
	}
}

// P3.2: behind a flush of all nothing is lost, whatever the mask.
func TestNothingLostBehindFlush(t *testing.T) {
	for i, m := range media() {
		for _, n := range []int{0, len(m.Blocks), math.MaxInt} {
			x, _ := cache.Flush(m, 0, n)
			if len(x.Dirty) != 0 || !slices.Equal(x.Blocks, cache.All(m)) {
				t.Error(i, n, len(x.Dirty))
			}
			for _, mask := range []uint64{0, 1, 2, 1 << 63, math.MaxUint64} {
				if y, e := cache.Lose(x, mask); e != api.OK || !slices.Equal(cache.All(y), cache.All(m)) {
					t.Error(i, n, mask, e)
				}
			}
		}
	}
}

// P3.2: what is lost is one of the writes that were cached, or what lasted, block by block; one that is flushed is as it was shown.
func TestLostIsOneOfThem(t *testing.T) {
	r := rand.New(rand.NewPCG(1, 2))
	for i, m := range media() {
		for range 40 {
			mask := r.Uint64()
			x, e := cache.Lose(m, mask)
			if e != api.OK || len(x.Blocks) != len(m.Blocks) || len(x.Dirty) != 0 {
				t.Fatal(i, mask, e)
			}
			for at, b := range x.Blocks {
				if !slices.Contains(history(m, at), b) {
					t.Errorf("medium %d, %x, block %d was never so", i, mask, at)
				}
			}
			if len(m.Blocks) == 0 {
				continue
			}
			at := r.IntN(len(m.Blocks))
			y, _ := cache.Flush(m, at, 1)
			if z, e := cache.Lose(y, mask); e != api.OK || z.Blocks[at] != shown(m, at) {
				t.Errorf("medium %d, %x, block %d was flushed", i, mask, at)
			}
		}
	}
}

// P3.1 and P3.2: long ways, call by call held against what each block shows; cached writes never are more than may be.
func TestLongWays(t *testing.T) {
	for seed := range uint64(60) {
		r := rand.New(rand.NewPCG(seed, 3))
		m := medium(1 + r.IntN(64))
		shows := slices.Clone(m.Blocks)
		for step := range 300 {
			at := r.IntN(len(shows))
			switch r.IntN(40) {
			case 0:
				m, _ = cache.Lose(m, r.Uint64())
				shows = cache.All(m)
			case 1, 2:
				m, _ = cache.Flush(m, at, r.IntN(6))
			default:
				shows[at] = wrote(step)
				m, _ = cache.Write(m, at, wrote(step), r.IntN(8) == 0)
			}
			if !cache.Right(m) || !slices.Equal(cache.All(m), shows) {
				t.Fatal(seed, step, "shows something else")
			}
		}
	}
}

// roomy is a medium whose lists have spare room that isn't 0, and that room as a whole.
func roomy(blocks, writes int) (m, room api.Medium) {
	room = medium(70, turns(70, max(blocks, 1))...)
	return api.Medium{Blocks: room.Blocks[:blocks], Dirty: room.Dirty[:writes]}, room
}

// P3.1: what is handed in is as it was behind each call, good or not, its spare room too.
func TestArgumentsStay(t *testing.T) {
	for _, blocks := range []int{0, 1, 5, 64, 65} {
		for _, writes := range []int{0, 1, 5, 63, 64, 65} {
			m, room := roomy(blocks, writes)
			was := clone(room)
			stays := func(call string, at int) {
				if !same(room, was) {
					t.Fatal(call, at, blocks, writes, "changed")
				}
			}
			cache.Right(m)
			stays("Right", 0)
			cache.All(m)
			stays("All", 0)
			for _, at := range []int{math.MinInt, -1, 0, 1, 4, 5, 63, 64, 65, math.MaxInt} {
				cache.Show(m, at)
				stays("Show", at)
				cache.Write(m, at, wrote(222), false)
				stays("Write", at)
				cache.Write(m, at, wrote(222), true)
				stays("Write through", at)
				for _, n := range []int{-1, 0, 1, 2, 64, math.MaxInt} {
					cache.Flush(m, at, n)
					stays("Flush", at)
				}
				cache.Lose(m, uint64(at))
				stays("Lose", at)
			}
		}
	}
}

// wipe writes over a medium, and over its spare room.
func wipe(m api.Medium) {
	clear(m.Blocks[:cap(m.Blocks)])
	clear(m.Dirty[:cap(m.Dirty)])
}

// An answer is new memory: who writes into it, or into its spare room, changes nothing of what was handed in.
func TestAnswersAreNew(t *testing.T) {
	for _, writes := range []int{0, 1, 5, 63, 64} {
		m, room := roomy(5, writes)
		was := clone(room)
		for at := range 5 {
			for _, through := range []bool{false, true} {
				x, _ := cache.Write(m, at, wrote(222), through)
				wipe(x)
			}
			for n := range 6 {
				x, _ := cache.Flush(m, at, n)
				wipe(x)
			}
		}
		empty, _ := cache.Flush(m, 5, 0)
		wipe(empty)
		for _, mask := range []uint64{0, 1, math.MaxUint64} {
			x, _ := cache.Lose(m, mask)
			wipe(x)
		}
		l := cache.All(m)
		clear(l[:cap(l)])
		if !same(room, was) {
			t.Error(writes, "is shared")
		}
	}
}

// Two writes that grow from one medium don't know of each other.
func TestWritesApart(t *testing.T) {
	m, _ := roomy(5, 3)
	a, _ := cache.Write(m, 1, wrote(7), false)
	b, _ := cache.Write(m, 2, wrote(8), false)
	if a.Dirty[3] != (api.Dirty{At: 1, Data: wrote(7)}) || b.Dirty[3] != (api.Dirty{At: 2, Data: wrote(8)}) {
		t.Error(a.Dirty[3], b.Dirty[3])
	}
	c, _ := cache.Write(a, 3, wrote(9), false)
	d, _ := cache.Write(a, 4, wrote(10), false)
	if c.Dirty[4].At != 3 || d.Dirty[4].At != 4 {
		t.Error(c.Dirty[4], d.Dirty[4])
	}
}
