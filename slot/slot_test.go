package slot_test

import (
	"bytes"
	"math"
	"math/big"
	"math/rand/v2"
	"slices"
	"testing"

	"reticule/api"
	"reticule/slot"
)

const size = 64 // bytes of a block, told apart from api's name on purpose

// The senses that a slot tells, written out.
var (
	good      = api.Sense{}
	notReady  = api.Sense{Key: 0x2, Code: 0x3a}
	protected = api.Sense{Key: 0x7, Code: 0x27}
	kept      = api.Sense{Key: 0x5, Code: 0x53, Qual: 0x2}
	outside   = api.Sense{Key: 0x5, Code: 0x21}
)

// extremes are whole numbers that wrap round when something is added to them, or taken off, or that fit when they are cut.
var extremes = []int{math.MinInt, math.MinInt + 1, math.MinInt + 64, math.MinInt32, math.MaxInt32, 1 << 32, 1<<32 + 1, math.MaxInt - 64, math.MaxInt - 1, math.MaxInt}

// far are places behind all blocks, those among them that wrap round, or turn below 0, when they are turned into another width.
var far = []uint64{100, 256, math.MaxUint32, 1 << 32, 1<<32 + 1, math.MaxInt64, 1 << 63, 1<<63 + 1, math.MaxUint64 - 64, math.MaxUint64 - 63, math.MaxUint64 - 1, math.MaxUint64}

// around is the whole numbers from low to high, and the extremes.
func around(low, high int) []int {
	l := slices.Clone(extremes)
	for i := low; i <= high; i++ {
		l = append(l, i)
	}
	return l
}

// places is the places from 0 to high, and those far off.
func places(high int) []uint64 {
	l := slices.Clone(far)
	for i := 0; i <= high; i++ {
		l = append(l, uint64(i))
	}
	return l
}

// lasts is what block i of the tests' media lasts as: no two are the same, and none is the data of a write.
func lasts(i int) (b api.Block) {
	for j := range b {
		b[j] = byte(j)
	}
	b[0], b[63] = byte(i), 1
	return b
}

// wrote is the data of write i of the tests' media: no two of 65536 are the same.
func wrote(i int) (b api.Block) {
	for j := range b {
		b[j] = byte(100 + j)
	}
	b[0], b[1], b[63] = byte(i), byte(i>>8), 2
	return b
}

// medium is so many blocks, and cached writes of these, one behind the other.
func medium(blocks int, ats ...int) api.Medium {
	m := api.Medium{Blocks: make([]api.Block, blocks)}
	for i := range m.Blocks {
		m.Blocks[i] = lasts(i)
	}
	for i, at := range ats {
		m.Dirty = append(m.Dirty, api.Dirty{At: at, Data: wrote(i)})
	}
	return m
}

// turns is of which blocks so many cached writes are: of one of so many after the other.
func turns(writes, blocks int) []int {
	l := make([]int, writes)
	for i := range l {
		l[i] = i * 11 % blocks
	}
	return l
}

// rights are media that may be: of no blocks, of one, of several, and of as many as there may be, with no write, with some, and with as many as there may be.
func rights() []api.Medium {
	l := []api.Medium{{}, {Blocks: []api.Block{}, Dirty: []api.Dirty{}}}
	for _, blocks := range []int{1, 2, 5, 63, 64} {
		for _, writes := range []int{0, 1, 2, 63, 64} {
			l = append(l, medium(blocks, turns(writes, blocks)...))
		}
	}
	return append(l, medium(4, 2, 2, 2), medium(4, 0, 3, 0, 3, 0))
}

// wrongs are media that may not be, and why.
func wrongs() map[string]api.Medium {
	return map[string]api.Medium{
		"65 blocks":                   medium(65),
		"65 blocks, a write":          medium(65, 0),
		"1000 blocks":                 medium(1000),
		"65 writes":                   medium(64, turns(65, 64)...),
		"65 writes of one block":      medium(1, make([]int, 65)...),
		"65 blocks, 65 writes":        medium(65, turns(65, 65)...),
		"no block, a write":           medium(0, 0),
		"a write behind the last one": medium(5, 3, 4, 5),
		"a write below 0":             medium(5, -1, 3),
		"a write of the greatest":     medium(5, 0, math.MaxInt),
		"a write of the least":        medium(5, 0, math.MinInt),
	}
}

// settings are the eight slots with that medium.
func settings(m api.Medium) []api.Slot {
	var l []api.Slot
	for i := range 8 {
		l = append(l, api.Slot{Medium: m, Present: i&1 != 0, Protect: i&2 != 0, Latch: i&4 != 0})
	}
	return l
}

// every is each setting of each medium, those too that may not be.
func every() []api.Slot {
	var l []api.Slot
	for _, m := range rights() {
		l = append(l, settings(m)...)
	}
	for _, m := range wrongs() {
		l = append(l, settings(m)...)
	}
	return l
}

// in is a slot with that medium, present, nothing else set.
func in(m api.Medium) api.Slot { return api.Slot{Medium: m, Present: true} }

// clone is the same slot in memory of its own.
func clone(s api.Slot) api.Slot {
	s.Medium = api.Medium{Blocks: slices.Clone(s.Medium.Blocks), Dirty: slices.Clone(s.Medium.Dirty)}
	return s
}

// same: are they the same, as a whole?
func same(a, b api.Slot) bool {
	return slices.Equal(a.Medium.Blocks, b.Medium.Blocks) && slices.Equal(a.Medium.Dirty, b.Medium.Dirty) &&
		a.Present == b.Present && a.Protect == b.Protect && a.Latch == b.Latch
}

// short tells a slot in a few words.
func short(s api.Slot) []any {
	return []any{len(s.Medium.Blocks), "blocks,", len(s.Medium.Dirty), "writes, present", s.Present, "protect", s.Protect, "latch", s.Latch}
}

// right: may the medium be? Said without layer 3.
func right(m api.Medium) bool {
	outside := func(d api.Dirty) bool { return d.At < 0 || d.At >= len(m.Blocks) }
	return len(m.Blocks) <= 64 && len(m.Dirty) <= 64 && !slices.ContainsFunc(m.Dirty, outside)
}

// shows is what each block shows, none of a medium that may not be. Said without layer 3.
func shows(m api.Medium) []api.Block {
	if !right(m) {
		return nil
	}
	l := slices.Clone(m.Blocks)
	for _, d := range m.Dirty {
		l[d.At] = d.Data
	}
	return l
}

// flushed is the medium with nothing cached any more, or as it was, if it may not be.
func flushed(m api.Medium) api.Medium {
	if !right(m) {
		return m
	}
	return api.Medium{Blocks: shows(m)}
}

// lost is what lasts when the power goes, block by block: the last of its writes that was done, or what lasted; as it was, if it may not be.
func lost(m api.Medium, mask uint64) api.Medium {
	if !right(m) {
		return m
	}
	left := api.Medium{Blocks: slices.Clone(m.Blocks)}
	for at := range left.Blocks {
		for i := len(m.Dirty) - 1; i >= 0; i-- {
			if m.Dirty[i].At == at && mask&(1<<i) != 0 {
				left.Blocks[at] = m.Dirty[i].Data
				break
			}
		}
	}
	return left
}

// flat is the bytes of blocks, one behind the other.
func flat(l []api.Block) []byte {
	b := make([]byte, len(l)*size)
	for i := range b {
		b[i] = l[i/size][i%size]
	}
	return b
}

// there says by numbers of any length whether there are such blocks.
func there(count int, at uint64, n int) bool {
	end := new(big.Int).SetUint64(at)
	end.Add(end, big.NewInt(int64(n)))
	return n >= 0 && end.Cmp(big.NewInt(int64(count))) <= 0
}

// P5.1: Insert makes it present, once, and nothing else.
func TestInsert(t *testing.T) {
	for _, s := range every() {
		want := clone(s)
		want.Present = true
		if x, fresh := slot.Insert(s); fresh == s.Present || !same(x, want) {
			t.Error(fresh, short(s), short(x))
		}
	}
}

// P5.1: Insert, the cases that the chapter names, written out.
func TestInsertEdges(t *testing.T) {
	m := medium(4, 1, 3)
	if x, fresh := slot.Insert(in(m)); fresh || !same(x, in(m)) {
		t.Error("of one that is present", fresh, short(x))
	}
	if x, fresh := slot.Insert(api.Slot{Medium: m}); !fresh || !same(x, in(m)) {
		t.Error("of one that isn't", fresh, short(x))
	}
	locked := api.Slot{Medium: m, Protect: true, Latch: true}
	if x, fresh := slot.Insert(locked); !fresh || !x.Present || !x.Protect || !x.Latch || len(x.Medium.Dirty) != 2 {
		t.Error("all else stays", fresh, short(x))
	}
}

// gone is what Button and Unload make of a slot, and the sense that Unload tells.
func gone(s api.Slot) (api.Slot, api.Sense) {
	switch {
	case !s.Present:
		return s, notReady
	case s.Latch:
		return s, kept
	}
	s.Medium, s.Present = flushed(s.Medium), false
	return s, good
}

// P5.1: Button and Unload of every slot: they do the same, and tell it each in its own way.
func TestTakenOut(t *testing.T) {
	for _, s := range every() {
		want, sense := gone(s)
		if x, ok := slot.Button(s); ok != (sense == good) || !same(x, want) {
			t.Error("Button", ok, short(s), short(x))
		}
		if x, why := slot.Unload(s); why != sense || !same(x, want) {
			t.Error("Unload", why, short(s), short(x))
		}
	}
}

// P5.1: Button and Unload, the cases that the chapter names, written out: which sense is told first, and that cached writes last behind it.
func TestTakenOutEdges(t *testing.T) {
	m := medium(4, 2, 0, 2)
	for _, c := range []struct {
		name string
		s    api.Slot
		why  api.Sense
	}{
		{"it isn't present", api.Slot{Medium: m}, notReady},
		{"it isn't present, and protected", api.Slot{Medium: m, Protect: true}, notReady},
		{"it is kept in", api.Slot{Medium: m, Present: true, Latch: true}, kept},
		{"it is both", api.Slot{Medium: m, Latch: true}, notReady},
		{"it is all of it", api.Slot{Medium: m, Latch: true, Protect: true}, notReady},
	} {
		if x, ok := slot.Button(c.s); ok || !same(x, c.s) {
			t.Error("Button:", c.name, ok, short(x))
		}
		if x, why := slot.Unload(c.s); why != c.why || !same(x, c.s) {
			t.Error("Unload:", c.name, why, short(x))
		}
	}
	left := []api.Block{wrote(1), lasts(1), wrote(2), lasts(3)}
	for _, protect := range []bool{false, true} {
		s := in(m)
		s.Protect = protect
		want := api.Slot{Medium: api.Medium{Blocks: left}, Protect: protect}
		if x, ok := slot.Button(s); !ok || !same(x, want) {
			t.Error("Button", ok, short(x))
		}
		if x, why := slot.Unload(s); why != good || !same(x, want) {
			t.Error("Unload", why, short(x))
		}
	}
}

// P5.1: Switch of every slot: all is flushed just where it comes on.
func TestSwitch(t *testing.T) {
	for _, s := range every() {
		want := clone(s)
		want.Protect = true
		if !s.Protect {
			want.Medium = flushed(s.Medium)
		}
		if x := slot.Switch(s, true); !same(x, want) {
			t.Error("on", short(s), short(x))
		}
		want = clone(s)
		want.Protect = false
		if x := slot.Switch(s, false); !same(x, want) {
			t.Error("off", short(s), short(x))
		}
	}
}

// P5.1: Switch, the cases that the chapter names, with cached writes, written out; whether it is present, or kept in, doesn't count.
func TestSwitchEdges(t *testing.T) {
	m := medium(4, 2, 0, 2)
	left := api.Medium{Blocks: []api.Block{wrote(1), lasts(1), wrote(2), lasts(3)}}
	for _, c := range []struct {
		name    string
		was, on bool
		want    api.Medium
	}{
		{"on where it is off", false, true, left},
		{"on where it is on already", true, true, m},
		{"off where it is on", true, false, m},
		{"off where it is off", false, false, m},
	} {
		for _, s := range settings(m) {
			if s.Protect != c.was {
				continue
			}
			want := api.Slot{Medium: c.want, Present: s.Present, Protect: c.on, Latch: s.Latch}
			if x := slot.Switch(s, c.on); !same(x, want) {
				t.Error(c.name, short(s), short(x))
			}
		}
	}
}

// P5.1: Keep of every slot.
func TestKeep(t *testing.T) {
	for _, s := range every() {
		for _, on := range []bool{false, true} {
			want, sense := clone(s), notReady
			if s.Present {
				want.Latch, sense = on, good
			}
			if x, why := slot.Keep(s, on); why != sense || !same(x, want) {
				t.Error(on, why, short(s), short(x))
			}
		}
	}
}

// P5.1: Keep, the cases that the chapter names, written out: of one that isn't present the latch is as it was, whichever it is.
func TestKeepEdges(t *testing.T) {
	m := medium(2, 1)
	for _, c := range []struct {
		name               string
		present, latch, on bool
		want               bool
		why                api.Sense
	}{
		{"on", true, false, true, true, good},
		{"on again", true, true, true, true, good},
		{"off", true, true, false, false, good},
		{"off again", true, false, false, false, good},
		{"on, of none", false, false, true, false, notReady},
		{"on again, of none", false, true, true, true, notReady},
		{"off, of none", false, true, false, true, notReady},
		{"off again, of none", false, false, false, false, notReady},
	} {
		x, why := slot.Keep(api.Slot{Medium: m, Present: c.present, Latch: c.latch}, c.on)
		if why != c.why || !same(x, api.Slot{Medium: m, Present: c.present, Latch: c.want}) {
			t.Error(c.name, why, short(x))
		}
	}
}

// P5.1: Ready hangs on whether it is present, and on nothing else.
func TestReady(t *testing.T) {
	for _, s := range every() {
		want := notReady
		if s.Present {
			want = good
		}
		if why := slot.Ready(s); why != want {
			t.Error(why, short(s))
		}
	}
}

// checked is the sense that Check must tell.
func checked(s api.Slot, at uint64, n int, write bool) api.Sense {
	switch {
	case !s.Present:
		return notReady
	case write && s.Protect:
		return protected
	case !there(len(shows(s.Medium)), at, n):
		return outside
	}
	return good
}

// P5.1: Check and Read of every setting, of all places and numbers around the edges.
func TestCheckAndRead(t *testing.T) {
	for _, m := range []api.Medium{{}, medium(1, 0), medium(5, 4, 0, 4), medium(63), medium(64, turns(64, 64)...), medium(65), medium(5, 5)} {
		whole := flat(shows(m))
		for _, s := range settings(m) {
			for _, at := range places(66) {
				for _, n := range around(-2, 66) {
					for _, write := range []bool{false, true} {
						if why := slot.Check(s, at, n, write); why != checked(s, at, n, write) {
							t.Fatal(at, n, write, why, short(s))
						}
					}
					want := checked(s, at, n, false)
					b, why := slot.Read(s, at, n)
					if why != want || why != good && len(b) != 0 {
						t.Fatal("Read", at, n, why, len(b), short(s))
					}
					if why == good && !bytes.Equal(b, whole[int(at)*size:(int(at)+n)*size]) {
						t.Fatal("Read", at, n, "shows something else", short(s))
					}
				}
			}
		}
	}
}

// P5.1: Check and Read, the cases that the chapter names, of four blocks, written out.
func TestCheckEdges(t *testing.T) {
	m := medium(4, 2, 2)
	all := flat([]api.Block{lasts(0), lasts(1), wrote(1), lasts(3)})
	for _, c := range []struct {
		name string
		at   uint64
		n    int
		why  api.Sense
	}{
		{"the first block", 0, 1, good},
		{"the last one", 3, 1, good},
		{"the one behind it", 4, 1, outside},
		{"none", 0, 0, good},
		{"none of the last one", 3, 0, good},
		{"none behind the last one", 4, 0, good},
		{"none farther off", 5, 0, outside},
		{"as many as there are", 0, 4, good},
		{"one more", 0, 5, outside},
		{"to the end", 1, 3, good},
		{"one behind the end", 1, 4, outside},
		{"n below 0", 0, -1, outside},
		{"n below 0, so that at fits", 5, -1, outside},
		{"n the least", 0, math.MinInt, outside},
		{"n the greatest", 0, math.MaxInt, outside},
		{"at the greatest", math.MaxUint64, 1, outside},
		{"none, at the greatest", math.MaxUint64, 0, outside},
		{"both the greatest", math.MaxUint64, math.MaxInt, outside},
		{"at and n make 0", math.MaxUint64 - 1, 2, outside},
		{"at's lower half fits", 1 << 32, 1, outside},
	} {
		for _, s := range settings(m) {
			read, write := c.why, c.why
			if s.Protect {
				write = protected
			}
			if !s.Present {
				read, write = notReady, notReady
			}
			if why := slot.Check(s, c.at, c.n, false); why != read {
				t.Error(c.name, "to be read", why, short(s))
			}
			if why := slot.Check(s, c.at, c.n, true); why != write {
				t.Error(c.name, "to be written", why, short(s))
			}
			var want []byte
			if read == good {
				want = all[c.at*size : (c.at+uint64(c.n))*size]
			}
			if b, why := slot.Read(s, c.at, c.n); why != read || !bytes.Equal(b, want) {
				t.Error(c.name, "Read", why, len(b), short(s))
			}
		}
	}
}

// put is what Put must answer.
func put(s api.Slot, at int, data api.Block, through bool) (api.Slot, api.Sense) {
	after := clone(s)
	if why := checked(s, uint64(at), 1, true); why != good {
		return after, why
	}
	m := &after.Medium
	if through {
		m.Blocks[at] = data
		m.Dirty = slices.DeleteFunc(m.Dirty, func(d api.Dirty) bool { return d.At == at })
		return after, good
	}
	if len(m.Dirty) == 64 {
		*m = flushed(*m)
	}
	m.Dirty = append(m.Dirty, api.Dirty{At: at, Data: data})
	return after, good
}

// P5.1: Put of every slot, through and not.
func TestPut(t *testing.T) {
	for _, s := range every() {
		for _, at := range []int{math.MinInt, -1 << 32, -2, -1, 0, 1, 2, 3, 4, 5, 6, 62, 63, 64, 65, 256, 1 << 32, math.MaxInt} {
			for _, through := range []bool{false, true} {
				want, sense := put(s, at, wrote(999), through)
				if x, why := slot.Put(s, at, wrote(999), through); why != sense || !same(x, want) {
					t.Fatal(at, through, why, sense, short(s), short(x))
				}
			}
		}
	}
}

// P5.1: Put of each place around the edges, of each setting: which sense is told first, and that the slot is as it was beside it.
func TestPutSenses(t *testing.T) {
	for _, c := range []struct {
		name string
		at   int
		why  api.Sense
	}{
		{"the first block", 0, good},
		{"the last one", 3, good},
		{"the one behind it", 4, outside},
		{"below 0", -1, outside},
		{"the least", math.MinInt, outside},
		{"the greatest", math.MaxInt, outside},
		{"its lower half fits", 1 << 32, outside},
	} {
		for _, s := range settings(medium(4, 2, 2)) {
			want := c.why
			if s.Protect {
				want = protected
			}
			if !s.Present {
				want = notReady
			}
			for _, through := range []bool{false, true} {
				x, why := slot.Put(s, c.at, wrote(7), through)
				if why != want || (why != good) != same(x, s) {
					t.Error(c.name, through, why, short(s), short(x))
				}
			}
		}
	}
}

// P5.1: Put through and not, with 0, 63, 64 and 65 cached writes of two blocks, written out.
func TestPutCached(t *testing.T) {
	for _, c := range []struct {
		writes          int
		cached, through int // how many are cached behind it: where it doesn't go through, and where it does
		why             api.Sense
	}{{0, 1, 0, good}, {63, 64, 31, good}, {64, 1, 32, good}, {65, 65, 65, outside}} {
		var ats []int
		for i := range c.writes {
			ats = append(ats, i%2)
		}
		s := in(medium(2, ats...))
		x, why := slot.Put(s, 0, wrote(999), false)
		if why != c.why || len(x.Medium.Dirty) != c.cached {
			t.Error(c.writes, "cached", why, short(x))
		}
		y, why := slot.Put(s, 0, wrote(999), true)
		if why != c.why || len(y.Medium.Dirty) != c.through {
			t.Error(c.writes, "through", why, short(y))
		}
		if c.why != good {
			continue
		}
		if last := x.Medium.Dirty[c.cached-1]; last != (api.Dirty{At: 0, Data: wrote(999)}) {
			t.Error(c.writes, "it isn't the last one", last)
		}
		if y.Medium.Blocks[0] != wrote(999) || y.Medium.Blocks[1] != lasts(1) {
			t.Error(c.writes, "it didn't go through")
		}
		if c.writes == 64 && (x.Medium.Blocks[0] != wrote(62) || x.Medium.Blocks[1] != wrote(63)) {
			t.Error("all must be flushed first")
		}
	}
}

// P5.1: Sync of every slot: what is shown lasts, nothing is cached any more, and nothing else changes.
func TestSync(t *testing.T) {
	for _, s := range every() {
		want := clone(s)
		want.Medium = flushed(s.Medium)
		if x := slot.Sync(s); !same(x, want) {
			t.Error(short(s), short(x))
		}
	}
	s := api.Slot{Medium: medium(4, 2, 0, 2)}
	if x := slot.Sync(s); len(x.Medium.Dirty) != 0 || !slices.Equal(x.Medium.Blocks, []api.Block{wrote(1), lasts(1), wrote(2), lasts(3)}) {
		t.Error("one that isn't present is flushed too", short(x))
	}
}

// P5.1: Power of every slot, by masks of no bit, of one, and of all: it isn't kept in any more, and is present and protected as it was.
func TestPower(t *testing.T) {
	masks := []uint64{0, math.MaxUint64, 0x5555555555555555, 0x0123456789abcdef}
	for i := range 64 {
		masks = append(masks, 1<<i, math.MaxUint64<<i)
	}
	for _, s := range every() {
		for _, mask := range masks {
			want := clone(s)
			want.Medium, want.Latch = lost(s.Medium, mask), false
			if x := slot.Power(s, mask); !same(x, want) {
				t.Fatalf("%x: %v, %v", mask, short(s), short(x))
			}
		}
	}
}

// P5.1: Power of one that is kept in, with three cached writes, written out.
func TestPowerEdges(t *testing.T) {
	s := api.Slot{Medium: medium(4, 2, 0, 2), Present: true, Latch: true}
	for _, c := range []struct {
		mask      uint64
		zero, two api.Block
	}{
		{0, lasts(0), lasts(2)},
		{1, lasts(0), wrote(0)},
		{2, wrote(1), lasts(2)},
		{4, lasts(0), wrote(2)},
		{5, lasts(0), wrote(2)},
		{8, lasts(0), lasts(2)},
		{1 << 63, lasts(0), lasts(2)},
		{math.MaxUint64, wrote(1), wrote(2)},
	} {
		want := in(api.Medium{Blocks: []api.Block{c.zero, lasts(1), c.two, lasts(3)}})
		if x := slot.Power(s, c.mask); !same(x, want) {
			t.Errorf("%x: %v", c.mask, short(x))
		}
	}
}

// P5.1: of a medium that may not be flushing and losing do nothing, its blocks show nothing, and there are none; what else a call does is done.
func TestWrongMedia(t *testing.T) {
	for name, m := range wrongs() {
		s := in(m)
		if x, ok := slot.Button(s); !ok || !same(x, api.Slot{Medium: m}) {
			t.Error(name, "Button", ok, short(x))
		}
		if x, why := slot.Unload(s); why != good || !same(x, api.Slot{Medium: m}) {
			t.Error(name, "Unload", why, short(x))
		}
		if x, fresh := slot.Insert(api.Slot{Medium: m}); !fresh || !same(x, s) {
			t.Error(name, "Insert", fresh, short(x))
		}
		if x := slot.Switch(s, true); !same(x, api.Slot{Medium: m, Present: true, Protect: true}) {
			t.Error(name, "Switch", short(x))
		}
		latched, why := slot.Keep(s, true)
		if why != good || !same(latched, api.Slot{Medium: m, Present: true, Latch: true}) {
			t.Error(name, "Keep", why, short(latched))
		}
		if x := slot.Power(latched, math.MaxUint64); !same(x, s) {
			t.Error(name, "Power", short(x))
		}
		if x := slot.Sync(s); !same(x, s) {
			t.Error(name, "Sync", short(x))
		}
		if slot.Ready(s) != good || slot.Check(s, 0, 0, true) != good || slot.Check(s, 0, 1, false) != outside || slot.Check(s, 1, 0, false) != outside {
			t.Error(name, "has no blocks")
		}
		if b, why := slot.Read(s, 0, 0); why != good || len(b) != 0 {
			t.Error(name, "Read of none", why, len(b))
		}
		if b, why := slot.Read(s, 0, 1); why != outside || len(b) != 0 {
			t.Error(name, "Read", why, len(b))
		}
		for _, at := range []int{math.MinInt, -1, 0, 1, 64, math.MaxInt} {
			if x, why := slot.Put(s, at, wrote(9), at&1 == 0); why != outside || !same(x, s) {
				t.Error(name, "Put", at, why, short(x))
			}
		}
	}
}

// The chapter's example: a write of one that is protected.
func TestExample(t *testing.T) {
	s := slot.Switch(in(medium(4)), true)
	x, why := slot.Put(s, 1, wrote(1), false)
	if why != protected || !same(x, s) || x.Medium.Blocks[1] != lasts(1) {
		t.Error(why, short(x))
	}
}

// step does one of the calls that answer a slot, by chance, and tells which; the switch goes off less often than on, so that much is done while it is on.
func step(r *rand.Rand, s api.Slot, i int) (api.Slot, string) {
	at := r.IntN(len(s.Medium.Blocks)+4) - 2
	switch r.IntN(12) {
	case 0:
		s, _ = slot.Insert(s)
		return s, "Insert"
	case 1:
		s, _ = slot.Button(s)
		return s, "Button"
	case 2:
		s, _ = slot.Unload(s)
		return s, "Unload"
	case 3:
		return slot.Switch(s, true), "Switch on"
	case 4:
		if r.IntN(3) > 0 {
			return s, "nothing"
		}
		return slot.Switch(s, false), "Switch off"
	case 5:
		on := r.IntN(2) == 0
		s, _ = slot.Keep(s, on)
		return s, "Keep"
	case 6:
		return slot.Sync(s), "Sync"
	case 7:
		return slot.Power(s, r.Uint64()), "Power"
	}
	s, _ = slot.Put(s, at, wrote(i), r.IntN(4) == 0)
	return s, "Put"
}

// P5.2: while it is protected nothing changes of what is shown, whatever is done, nor when the power goes: nothing is cached then. What a slot that isn't protected shows only a Put, or the power, changes; what is taken out has nothing cached.
func TestProtectedStays(t *testing.T) {
	tried := map[string]int{}
	for seed := range uint64(80) {
		r := rand.New(rand.NewPCG(seed, 5))
		blocks := 1 + r.IntN(64)
		s := in(medium(blocks))
		for i := range 400 {
			x, call := step(r, s, i)
			if s.Protect {
				tried[call]++
			}
			changed := !slices.Equal(shows(x.Medium), shows(s.Medium))
			if changed && (s.Protect || call != "Put" && call != "Power") {
				t.Fatal(seed, i, call, "changes what is shown", short(s))
			}
			if len(x.Medium.Dirty) != 0 && (x.Protect || !x.Present) {
				t.Fatal(seed, i, call, "is cached", short(x))
			}
			if !right(x.Medium) || len(x.Medium.Blocks) != blocks {
				t.Fatal(seed, i, call, "may not be", short(x))
			}
			s = x
		}
	}
	for _, call := range []string{"Insert", "Button", "Unload", "Switch on", "Switch off", "Keep", "Sync", "Power", "Put"} {
		if tried[call] == 0 {
			t.Error(call, "was never done while it was protected")
		}
	}
}

// P5.2: what is kept in is not taken out, till it isn't kept any more, or the power goes.
func TestKeptStays(t *testing.T) {
	for seed := range uint64(40) {
		r := rand.New(rand.NewPCG(seed, 6))
		s := in(medium(1 + r.IntN(64)))
		for i := range 400 {
			x, call := step(r, s, i)
			if s.Present && s.Latch && !x.Present {
				t.Fatal(seed, i, call, "takes it out", short(s))
			}
			if s.Latch && !x.Latch && call != "Keep" && call != "Power" {
				t.Fatal(seed, i, call, "lets it go", short(s))
			}
			if x.Latch && !x.Present {
				t.Fatal(seed, i, call, "keeps what isn't in", short(x))
			}
			s = x
		}
	}
	s, _ := slot.Keep(in(medium(4, 2)), true)
	if x, ok := slot.Button(s); ok || !x.Present {
		t.Error("who keeps it in has it", ok, short(x))
	}
	if x, ok := slot.Button(slot.Power(s, 0)); !ok || x.Present {
		t.Error("behind the power it isn't kept", ok, short(x))
	}
	free, _ := slot.Keep(s, false)
	if x, why := slot.Unload(free); why != good || x.Present {
		t.Error("it isn't kept any more", why, short(x))
	}
}

// P5.2: while it is protected the power changes nothing, though writes were cached ahead of it, whatever the mask.
func TestProtectedPower(t *testing.T) {
	for _, m := range rights() {
		s := slot.Switch(in(m), true)
		for _, mask := range []uint64{0, 1, 2, 1 << 63, math.MaxUint64} {
			if x := slot.Power(s, mask); !slices.Equal(x.Medium.Blocks, shows(m)) || len(x.Medium.Dirty) != 0 || !x.Protect {
				t.Error(mask, short(s), short(x))
			}
		}
	}
}

// What is taken out stays in its place, and is the one that comes in again: with what was written, though it was cached.
func TestComesInAgain(t *testing.T) {
	s := in(medium(4))
	s, _ = slot.Put(s, 1, wrote(1), false)
	s, _ = slot.Put(s, 3, wrote(2), true)
	s, _ = slot.Button(s)
	if b, why := slot.Read(s, 0, 4); why != notReady || len(b) != 0 {
		t.Error("it isn't in", why, len(b))
	}
	s, fresh := slot.Insert(slot.Power(s, 0))
	b, why := slot.Read(s, 0, 4)
	if !fresh || why != good || !bytes.Equal(b, flat([]api.Block{lasts(0), wrote(1), lasts(2), wrote(2)})) {
		t.Error("it is another one", fresh, why)
	}
}

// roomy is a medium whose lists have spare room that isn't 0, and that room as a whole.
func roomy(blocks, writes int) (m, room api.Medium) {
	room = medium(70, turns(70, max(blocks, 1))...)
	return api.Medium{Blocks: room.Blocks[:blocks], Dirty: room.Dirty[:writes]}, room
}

// calls are all calls that answer a slot, by their names, with arguments that are good, and with some that aren't.
func calls() map[string]func(api.Slot) api.Slot {
	return map[string]func(api.Slot) api.Slot{
		"Insert":     func(s api.Slot) api.Slot { x, _ := slot.Insert(s); return x },
		"Button":     func(s api.Slot) api.Slot { x, _ := slot.Button(s); return x },
		"Unload":     func(s api.Slot) api.Slot { x, _ := slot.Unload(s); return x },
		"Switch on":  func(s api.Slot) api.Slot { return slot.Switch(s, true) },
		"Switch off": func(s api.Slot) api.Slot { return slot.Switch(s, false) },
		"Keep on":    func(s api.Slot) api.Slot { x, _ := slot.Keep(s, true); return x },
		"Keep off":   func(s api.Slot) api.Slot { x, _ := slot.Keep(s, false); return x },
		"Put":        func(s api.Slot) api.Slot { x, _ := slot.Put(s, 0, wrote(222), false); return x },
		"through":    func(s api.Slot) api.Slot { x, _ := slot.Put(s, 0, wrote(222), true); return x },
		"behind":     func(s api.Slot) api.Slot { x, _ := slot.Put(s, 66, wrote(222), true); return x },
		"below":      func(s api.Slot) api.Slot { x, _ := slot.Put(s, -1, wrote(222), false); return x },
		"Sync":       slot.Sync,
		"Power":      func(s api.Slot) api.Slot { return slot.Power(s, 5) },
	}
}

// P5.1: what is handed in is as it was behind each call, good or not, its spare room too; and an answer is new memory: who writes into it, or into its spare room, changes nothing of what was handed in.
func TestArgumentsStay(t *testing.T) {
	for _, blocks := range []int{0, 1, 5, 64, 65} {
		for _, writes := range []int{0, 1, 5, 63, 64, 65} {
			m, room := roomy(blocks, writes)
			was := clone(api.Slot{Medium: room})
			stays := func(call string, s api.Slot) {
				if !same(api.Slot{Medium: room}, was) {
					t.Fatal(call, "changed", short(s))
				}
			}
			for _, s := range settings(m) {
				for call, do := range calls() {
					x := do(s)
					stays(call, s)
					clear(x.Medium.Blocks[:cap(x.Medium.Blocks)])
					clear(x.Medium.Dirty[:cap(x.Medium.Dirty)])
					stays(call+"'s answer is shared, and", s)
				}
				slot.Ready(s)
				slot.Check(s, 0, 1, true)
				for _, n := range []int{0, 1, blocks} {
					b, _ := slot.Read(s, 0, n)
					clear(b[:cap(b)])
				}
				stays("Ready, Check, Read", s)
			}
		}
	}
}

// Two slots that grow from one don't know of each other.
func TestSlotsApart(t *testing.T) {
	m, _ := roomy(5, 3)
	a, _ := slot.Put(in(m), 1, wrote(7), false)
	b, _ := slot.Put(in(m), 2, wrote(8), false)
	if a.Medium.Dirty[3] != (api.Dirty{At: 1, Data: wrote(7)}) || b.Medium.Dirty[3] != (api.Dirty{At: 2, Data: wrote(8)}) {
		t.Error(a.Medium.Dirty[3], b.Medium.Dirty[3])
	}
}
