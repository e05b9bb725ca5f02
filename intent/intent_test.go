package intent_test

import (
	"bytes"
	"encoding/binary"
	"math"
	"math/rand/v2"
	"slices"
	"testing"

	"reticule/api"
	"reticule/inquiry"
	"reticule/intent"
	"reticule/mode"
)

const size = 64 // bytes of a block, told apart from api's name on purpose

// The senses that an intent tells, written out.
var (
	good      = api.Sense{}
	notReady  = api.Sense{Key: 0x2, Code: 0x3a}
	protected = api.Sense{Key: 0x7, Code: 0x27}
	kept      = api.Sense{Key: 0x5, Code: 0x53, Qual: 0x2}
	outside   = api.Sense{Key: 0x5, Code: 0x21}
	field     = api.Sense{Key: 0x5, Code: 0x24}
	unknown   = api.Sense{Key: 0x5, Code: 0x20}
	saving    = api.Sense{Key: 0x5, Code: 0x39}
	newMedium = api.Sense{Key: 0x6, Code: 0x28}
)

// The ops of layer 6, by what is done by them.
var (
	reads        = []int{0x08, 0x28, 0xa8, 0x88}
	writes       = []int{0x0a, 0x2a, 0xaa, 0x8a}
	verifies     = []int{0x2f, 0xaf, 0x8f}
	synchronizes = []int{0x35, 0x91}
	selects      = []int{0x15, 0x55}
	modes        = []int{0x1a, 0x5a}
	capacities   = []int{0x25, 0x9e}
	singles      = []int{0x00, 0x03, 0x12, 0x1b, 0x1e, 0xa0}
	ofBlocks     = slices.Concat(reads, writes, verifies, synchronizes)
	all          = slices.Concat(ofBlocks, selects, modes, capacities, singles)
)

// What a command's numbers may be: the ends of what they may be, and beyond.
var (
	manyNs  = []int{math.MinInt, math.MinInt + 1, -1 << 32, -1, 0, 1, 2, 3, 4, 5, 17, 18, 19, 36, 63, 64, 65, 256, 1<<32 - 1, 1 << 32, 1<<32 + 1, 1 << 58, 1<<58 + 1, math.MaxInt}
	manyAts = []uint64{0, 1, 3, 4, 5, 63, 64, 65, 1 << 32, 1<<32 + 1, 1<<63 - 1, 1 << 63, math.MaxUint64 - 2, math.MaxUint64 - 1, math.MaxUint64}
	anyInts = []int{math.MinInt, -1, 0, 1, 2, 3, 4, 5, 256, 257, 258, 259, 1<<32 + 1, math.MaxInt}
)

// lasts is what block i of the tests' media lasts as: no two are the same, and none is the data of a write.
func lasts(i int) (b api.Block) {
	for j := range b {
		b[j] = byte(j)
	}
	b[0], b[63] = byte(i), 1
	return b
}

// wrote is the data of the cached write i of the tests' media.
func wrote(i int) (b api.Block) {
	for j := range b {
		b[j] = byte(100 + j)
	}
	b[0], b[63] = byte(i), 2
	return b
}

// medium is so many blocks, and cached writes of these, one behind the other.
func medium(blocks int, ats ...int) api.Medium {
	m := api.Medium{Blocks: make([]api.Block, blocks)}
	for i := range m.Blocks {
		m.Blocks[i] = lasts(i)
	}
	for i, at := range ats {
		m.Dirty = append(m.Dirty, api.Dirty{At: at, Data: wrote(i)})
	}
	return m
}

// waiting is n attentions, none of which is NewMedium.
func waiting(n int) []api.Sense {
	l := make([]api.Sense, n)
	for i := range l {
		l[i] = api.Sense{Key: 6, Code: 0x29, Qual: i}
	}
	return l
}

// unit is one with that slot, whose writes are cached, with attentions and a sense of its last command.
func unit(s api.Slot) api.Unit {
	return api.Unit{Slot: s, Caching: true, Attentions: waiting(2), Last: api.Sense{Key: 5, Code: 0x20, Qual: 3}}
}

// plain is a unit of four blocks, three writes of two of them cached.
func plain() api.Unit {
	return unit(api.Slot{Medium: medium(4, 2, 0, 2), Present: true})
}

// with is the plain unit, its slot set so.
func with(present, protect, latch bool) api.Unit {
	u := plain()
	u.Slot.Present, u.Slot.Protect, u.Slot.Latch = present, protect, latch
	return u
}

// holding is a unit with that medium, present.
func holding(m api.Medium) api.Unit {
	return unit(api.Slot{Medium: m, Present: true})
}

// attended is a unit whose medium is out, with these attentions.
func attended(l []api.Sense) api.Unit {
	u := with(false, false, false)
	u.Attentions = l
	return u
}

// units are those of each kind that a chapter tells apart.
func units() map[string]api.Unit {
	through := plain()
	through.Caching = false
	told := plain()
	told.Last = good
	return map[string]api.Unit{
		"plain":                             plain(),
		"its writes go through":             through,
		"it told all":                       told,
		"out":                               with(false, false, false),
		"out, and all is set":               with(false, true, true),
		"protected":                         with(true, true, false),
		"kept in":                           with(true, false, true),
		"kept in and protected":             with(true, true, true),
		"zero":                              {},
		"no blocks":                         holding(medium(0)),
		"one block":                         holding(medium(1, 0)),
		"all blocks":                        holding(medium(64, slices.Repeat([]int{63, 0, 5, 63}, 16)...)),
		"too many blocks":                   holding(medium(65, 1)),
		"too many writes":                   holding(medium(4, slices.Repeat([]int{1}, 65)...)),
		"a write of no block":               holding(medium(4, 1, 4)),
		"out, attentions are full":          attended(waiting(4)),
		"out, attentions are more":          attended(waiting(6)),
		"out, one attention may come":       attended(waiting(3)),
		"out, no attentions":                attended(nil),
		"out, NewMedium waits":              attended([]api.Sense{newMedium}),
		"out, NewMedium waits ahead of one": attended(append([]api.Sense{newMedium}, waiting(1)...)),
	}
}

// cloneUnit is the same unit in memory of its own.
func cloneUnit(u api.Unit) api.Unit {
	u.Slot.Medium = api.Medium{Blocks: slices.Clone(u.Slot.Medium.Blocks), Dirty: slices.Clone(u.Slot.Medium.Dirty)}
	u.Attentions = slices.Clone(u.Attentions)
	return u
}

// sameUnit: are they the same, as a whole?
func sameUnit(a, b api.Unit) bool {
	return slices.Equal(a.Slot.Medium.Blocks, b.Slot.Medium.Blocks) && slices.Equal(a.Slot.Medium.Dirty, b.Slot.Medium.Dirty) &&
		a.Slot.Present == b.Slot.Present && a.Slot.Protect == b.Slot.Protect && a.Slot.Latch == b.Slot.Latch &&
		a.Caching == b.Caching && slices.Equal(a.Attentions, b.Attentions) && a.Last == b.Last
}

// sameIntent: are they the same, as a whole?
func sameIntent(a, b api.Intent) bool {
	j, k := a.Job, b.Job
	return a.Dir == b.Dir && a.Len == b.Len && bytes.Equal(a.Data, b.Data) && a.Sense == b.Sense &&
		j.Command == k.Command && j.Len == k.Len && j.Took == k.Took && bytes.Equal(j.Rest, k.Rest) && j.Bad == k.Bad
}

// short tells a unit in a few words.
func short(u api.Unit) []any {
	s := u.Slot
	return []any{len(s.Medium.Blocks), "blocks,", len(s.Medium.Dirty), "writes, present", s.Present, "protect", s.Protect, "latch", s.Latch, "caching", u.Caching, u.Attentions, u.Last}
}

// none, in and out are the intents without a direction, to the host, and from it.
func none(why api.Sense) api.Intent { return api.Intent{Sense: why} }

func in(b []byte) api.Intent {
	if len(b) == 0 {
		return api.Intent{}
	}
	return api.Intent{Dir: 1, Len: len(b), Data: b}
}

func out(c api.Command, lens int) api.Intent {
	return api.Intent{Dir: 2, Len: lens, Job: api.Job{Command: c, Len: lens}}
}

// rightMedium: may it be? Said without layer 3.
func rightMedium(m api.Medium) bool {
	behind := func(d api.Dirty) bool { return d.At < 0 || d.At >= len(m.Blocks) }
	return len(m.Blocks) <= 64 && len(m.Dirty) <= 64 && !slices.ContainsFunc(m.Dirty, behind)
}

// shows is what each block shows, none of a medium that may not be. Said without layer 3.
func shows(m api.Medium) []api.Block {
	return synced(m, 0, 64).Blocks[:shown(m)]
}

// shown is how many blocks are shown.
func shown(m api.Medium) int {
	if !rightMedium(m) {
		return 0
	}
	return len(m.Blocks)
}

// synced is the medium, its blocks flushed from first on, ahead of stop; one that may not be as it was. Said without layer 3.
func synced(m api.Medium, first, stop int) api.Medium {
	m = api.Medium{Blocks: slices.Clone(m.Blocks), Dirty: slices.Clone(m.Dirty)}
	meant := func(d api.Dirty) bool { return d.At >= first && d.At < stop }
	if !rightMedium(m) {
		return m
	}
	for _, d := range m.Dirty {
		if meant(d) {
			m.Blocks[d.At] = d.Data
		}
	}
	m.Dirty = slices.DeleteFunc(m.Dirty, meant)
	return m
}

// flat is the bytes of blocks, one behind the other.
func flat(l []api.Block) []byte {
	var b []byte
	for i := range l {
		b = append(b, l[i][:]...)
	}
	return b
}

// cut is the first n bytes, as far as there are so many. Said without layer 7.
func cut(b []byte, n int) []byte {
	return b[:min(max(n, 0), len(b))]
}

// ready is a slot's sense. Said without layer 5, as all of these.
func ready(s api.Slot) api.Sense {
	if s.Present {
		return good
	}
	return notReady
}

// checked is the sense of a command's blocks.
func checked(s api.Slot, c api.Command) api.Sense {
	count := shown(s.Medium)
	switch {
	case !s.Present:
		return notReady
	case s.Protect && slices.Contains(writes, c.Op):
		return protected
	case c.N < 0 || c.N > count || c.At > uint64(count-c.N):
		return outside
	}
	return good
}

// wanted is what Begin must answer of a unit that is there. Of layers 7 and 8 it takes what they answer, all else it says of its own.
func wanted(u api.Unit, lun, luns int, c api.Command) (api.Unit, api.Intent) {
	u = cloneUnit(u)
	if slices.Contains(ofBlocks, c.Op) {
		return wantedOfBlocks(u, c)
	}
	switch c.Op {
	case 0x00:
		return u, none(ready(u.Slot))
	case 0x03:
		s := u.Last
		u.Last = good
		return u, in(cut([]byte{0x70, 0, byte(s.Key), 0, 0, 0, 0, 0xa, 0, 0, 0, 0, byte(s.Code), byte(s.Qual), 0, 0, 0, 0}, c.N))
	case 0x12:
		return u, answered(inquiry.Answer(c, lun, luns))
	case 0x1a, 0x5a:
		return u, answered(mode.Answer(c, u.Caching, u.Slot.Protect))
	case 0x15, 0x55:
		return u, brought(c, c.N)
	case 0x1b:
		return startStopped(u, c.Bits)
	case 0x1e:
		if u.Slot.Present {
			u.Slot.Latch = c.Bits == 1
		}
		return u, none(ready(u.Slot))
	case 0x25, 0x9e:
		return u, counted(u.Slot, c)
	case 0xa0:
		return u, in(cut(listed(luns), c.N))
	}
	return u, none(unknown)
}

// wantedOfBlocks is that of a command of blocks. It may write into the unit.
func wantedOfBlocks(u api.Unit, c api.Command) (api.Unit, api.Intent) {
	why := checked(u.Slot, c)
	at := int(min(c.At, 64))
	switch {
	case why != good:
		return u, none(why)
	case slices.Contains(reads, c.Op):
		return u, in(flat(shows(u.Slot.Medium)[at:][:c.N]))
	case slices.Contains(synchronizes, c.Op) && c.N == 0:
		u.Slot.Medium = synced(u.Slot.Medium, at, 64)
		return u, none(good)
	case slices.Contains(synchronizes, c.Op):
		u.Slot.Medium = synced(u.Slot.Medium, at, at+c.N)
		return u, none(good)
	case slices.Contains(verifies, c.Op) && c.Bits != 1:
		return u, none(good)
	}
	return u, brought(c, size*c.N)
}

// brought is the intent from the host for a command's job of so many bytes, if there is one.
func brought(c api.Command, lens int) api.Intent {
	if c.N < 1 || c.N > 4294967296 {
		return none(good)
	}
	return out(c, lens)
}

// answered is the intent for what a layer answers.
func answered(b []byte, why api.Sense) api.Intent {
	if why != good {
		return none(why)
	}
	return in(b)
}

// startStopped is what comes of a StartStop.
func startStopped(u api.Unit, bits int) (api.Unit, api.Intent) {
	switch {
	case bits == 3 && !u.Slot.Present:
		u.Slot.Present = true
		if len(u.Attentions) < 4 && !slices.Contains(u.Attentions, newMedium) {
			u.Attentions = append(u.Attentions, newMedium)
		}
		return u, none(good)
	case !u.Slot.Present:
		return u, none(notReady)
	case bits == 2 && u.Slot.Latch:
		return u, none(kept)
	case bits == 2:
		u.Slot.Medium, u.Slot.Present = synced(u.Slot.Medium, 0, 64), false
	case bits == 0:
		u.Slot.Medium = synced(u.Slot.Medium, 0, 64)
	}
	return u, none(good)
}

// counted is the intent of a capacity. Said without layer 9, as the next one.
func counted(s api.Slot, c api.Command) api.Intent {
	if !s.Present {
		return none(notReady)
	}
	last := uint64(shown(s.Medium) - 1)
	if c.Op == 0x25 {
		return in(append(binary.BigEndian.AppendUint32(nil, uint32(last)), 0, 0, 0, 64))
	}
	b := append(binary.BigEndian.AppendUint64(nil, last), 0, 0, 0, 64)
	return in(cut(append(b, make([]byte, 20)...), c.N))
}

// listed is the list of the units, whole.
func listed(luns int) []byte {
	luns = min(max(luns, 0), 4)
	b := []byte{0, 0, 0, byte(8 * luns), 0, 0, 0, 0}
	for i := range luns {
		b = append(b, 0, byte(i), 0, 0, 0, 0, 0, 0)
	}
	return b
}

// check holds Begin against wanted, and an intent against P11.2, and answers what Begin answers.
func check(t *testing.T, name string, u api.Unit, lun, luns int, c api.Command) (api.Unit, api.Intent) {
	t.Helper()
	was := cloneUnit(u)
	wantUnit, want := wanted(u, lun, luns, c)
	v, k := intent.Begin(u, lun, luns, c)
	if !sameUnit(v, wantUnit) || !sameIntent(k, want) {
		t.Fatalf("%s: %x of unit %d of %d: %v\ngot %v %v\nwant %v %v", name, c.Op, lun, luns, c, k, short(v), want, short(wantUnit))
	}
	if !sameUnit(u, was) {
		t.Fatalf("%s: %x: what was handed in was changed", name, c.Op)
	}
	checkLen(t, c, k)
	return v, k
}

// checkLen is P11.2: an intent's Len is how many bytes it has, or its job wants, and has nothing of the other direction; without a direction it is 0, and so it is without bytes.
func checkLen(t *testing.T, c api.Command, k api.Intent) {
	t.Helper()
	noJob, noData := sameIntent(api.Intent{Job: k.Job}, api.Intent{}), len(k.Data) == 0
	var ok bool
	switch k.Dir {
	case api.DirNone:
		ok = k.Len == 0 && noData && noJob
	case api.DirIn:
		ok = k.Len == len(k.Data) && k.Len > 0 && noJob && k.Sense == good
	case api.DirOut:
		ok = k.Len == k.Job.Len && k.Len > 0 && noData && k.Sense == good && k.Job.Command == c && k.Job.Took == 0
	}
	if !ok {
		t.Fatal(c, k)
	}
}

// commands are those of an op, of all numbers that count for it, and of others that don't.
func commands(op int) []api.Command {
	ats, pages := []uint64{0, math.MaxUint64}, []int{0, 0x3f}
	if slices.Contains(ofBlocks, op) {
		ats, pages = manyAts, pages[:1]
	}
	if slices.Contains(modes, op) || op == 0x12 {
		pages = []int{-1, 0, 1, 8, 0x1c, 0x3f, 0x80, 0x83, 0xb0, 0x13f, math.MaxInt}
	}
	var l []api.Command
	for _, n := range manyNs {
		for _, bits := range []int{-1, 0, 1, 2, 3, 258} {
			for _, page := range pages {
				for _, at := range ats {
					l = append(l, api.Command{Op: op, At: at, N: n, Page: page, Bits: bits})
				}
			}
		}
	}
	return l
}

// P11.1, P11.2: each command of layer 6, of numbers at the ends of what they may be and beyond, of each kind of unit.
func TestEachCommand(t *testing.T) {
	for _, op := range all {
		l := commands(op)
		for name, u := range units() {
			for i, c := range l {
				if len(u.Slot.Medium.Blocks) < 60 || i%7 == 0 {
					check(t, name, u, 1, 3, c)
				}
			}
		}
	}
}

// P11.1: an Op that isn't one of layer 6's: Unknown, whatever the rest, and whatever the unit.
func TestUnknown(t *testing.T) {
	ops := []int{math.MinInt, -1, -0x100 + 0x28, 0x100, 0x128, 1<<32 + 0x12, math.MaxInt}
	for op := range 256 {
		if !slices.Contains(all, op) {
			ops = append(ops, op)
		}
	}
	if len(ops) != 256-25+7 {
		t.Fatal("there are 25 commands", len(ops))
	}
	for _, op := range ops {
		for name, u := range units() {
			for _, c := range []api.Command{{}, {N: 1}, {N: 36, Bits: 1}, {At: math.MaxUint64, N: math.MinInt, Page: -1, Bits: -1}} {
				c.Op = op
				if v, k := check(t, name, u, 0, 1, c); !sameIntent(k, api.Intent{Sense: unknown}) || !sameUnit(v, u) {
					t.Errorf("%s: %x: %v", name, op, k)
				}
			}
		}
	}
}

// P11.1: lun and luns, at the ends of what they may be and beyond: they count for Inquiry and ReportLuns alone, and a unit that isn't there is answered no less.
func TestWhichUnit(t *testing.T) {
	numbers := []int{math.MinInt, -2, -1, 0, 1, 2, 3, 4, 5, 7, 8, 63, 256, math.MaxInt}
	for _, lun := range numbers {
		for _, luns := range numbers {
			for _, op := range all {
				c := api.Command{Op: op, N: 4, Page: 8}
				check(t, "plain", plain(), lun, luns, c)
				if op == 0x12 || op == 0xa0 {
					continue
				}
				v, k := intent.Begin(plain(), lun, luns, c)
				w, j := intent.Begin(plain(), 0, 1, c)
				if !sameUnit(v, w) || !sameIntent(k, j) {
					t.Errorf("%x: unit %d of %d is another one", op, lun, luns)
				}
			}
		}
	}
	for _, c := range []struct {
		lun, luns int
		first     byte
	}{{0, 1, 0}, {3, 4, 0}, {4, 5, 0}, {1, 1, 0x7f}, {4, 4, 0x7f}, {-1, 4, 0x7f}, {0, 0, 0x7f}, {0, -1, 0x7f}, {math.MinInt, math.MaxInt, 0x7f}, {math.MaxInt, math.MinInt, 0x7f}, {math.MaxInt - 1, math.MaxInt, 0}} {
		_, k := intent.Begin(plain(), c.lun, c.luns, api.Command{Op: api.Inquiry, N: 36})
		if k.Dir != api.DirIn || k.Len != 36 || len(k.Data) != 36 || k.Data[0] != c.first {
			t.Error(c, k)
		}
	}
	for _, c := range []struct{ luns, n, lens int }{{1, 16, 16}, {2, 255, 24}, {4, 40, 40}, {4, 41, 40}, {4, 39, 39}, {5, 255, 40}, {0, 16, 8}, {-1, 16, 8}, {4, 1, 1}, {4, 0, 0}, {4, -1, 0}, {4, 1 << 40, 40}} {
		_, k := intent.Begin(plain(), 0, c.luns, api.Command{Op: api.ReportLuns, N: c.n})
		if !sameIntent(k, in(cut(listed(c.luns), c.n))) || k.Len != c.lens {
			t.Error(c, k)
		}
	}
}

// P11.1: which page is told to whom, and why not, written out.
func TestInquiryAndModes(t *testing.T) {
	for _, c := range []struct {
		u    api.Unit
		c    api.Command
		want api.Intent
	}{
		{plain(), api.Command{Op: api.Inquiry, N: 5}, in([]byte{0, 0x80, 6, 2, 0x1f})},
		{plain(), api.Command{Op: api.Inquiry, N: 5, Page: 0x80}, in([]byte{0, 0x80, 6, 2, 0x1f})},
		{plain(), api.Command{Op: api.Inquiry, N: 255, Page: 0x80, Bits: 1}, in([]byte("\x00\x80\x00\x08RT000002"))},
		{plain(), api.Command{Op: api.Inquiry, N: 255, Page: 0x81, Bits: 1}, none(field)},
		{plain(), api.Command{Op: api.Inquiry, N: 0, Page: 0x81, Bits: 1}, none(field)},
		{plain(), api.Command{Op: api.Inquiry, N: 0}, none(good)},
		{plain(), api.Command{Op: api.Inquiry, N: -1, Page: 0x80, Bits: 1}, none(good)},
		{with(false, false, false), api.Command{Op: api.Inquiry, N: 5}, in([]byte{0, 0x80, 6, 2, 0x1f})},
		{plain(), api.Command{Op: api.ModeSense6, N: 7, Page: 8}, in([]byte{23, 0, 0, 0, 8, 0x12, 4})},
		{plain(), api.Command{Op: api.ModeSense10, N: 11, Page: 8}, in([]byte{0, 26, 0, 0, 0, 0, 0, 0, 8, 0x12, 4})},
		{units()["its writes go through"], api.Command{Op: api.ModeSense6, N: 7, Page: 8}, in([]byte{23, 0, 0, 0, 8, 0x12, 0})},
		{units()["its writes go through"], api.Command{Op: api.ModeSense6, N: 7, Page: 8, Bits: 1}, in([]byte{23, 0, 0, 0, 8, 0x12, 4})},
		{with(true, true, false), api.Command{Op: api.ModeSense6, N: 5, Page: 0x1c}, in([]byte{15, 0, 0x80, 0, 0x1c})},
		{with(false, true, false), api.Command{Op: api.ModeSense10, N: 5, Page: 0x1c}, in([]byte{0, 18, 0, 0x80, 0})},
		{plain(), api.Command{Op: api.ModeSense6, N: 255, Page: 9}, none(field)},
		{plain(), api.Command{Op: api.ModeSense10, N: 255, Page: 9, Bits: 3}, none(saving)},
		{plain(), api.Command{Op: api.ModeSense6, N: 0, Page: 8, Bits: 3}, none(saving)},
		{plain(), api.Command{Op: api.ModeSense6, N: 0, Page: 8}, none(good)},
		{plain(), api.Command{Op: api.ModeSense10, N: -1, Page: 0x3f}, none(good)},
	} {
		if v, k := check(t, "written out", c.u, 2, 4, c.c); !sameIntent(k, c.want) || !sameUnit(v, c.u) {
			t.Errorf("%v: %v", c.c, k)
		}
	}
}

// P11.1: RequestSense: the sense of the last command, good or not, cut and not; it is told once, even if there is no room for it.
func TestRequestSense(t *testing.T) {
	senses := []api.Sense{good, kept, protected, {Key: 0xe, Code: 0x1d}, {Qual: 1}, {Key: 0x101, Code: -1, Qual: math.MinInt + 2}}
	for _, last := range senses {
		whole := []byte{0x70, 0, byte(last.Key), 0, 0, 0, 0, 10, 0, 0, 0, 0, byte(last.Code), byte(last.Qual), 0, 0, 0, 0}
		for _, c := range []struct{ n, lens int }{{18, 18}, {19, 18}, {255, 18}, {math.MaxInt, 18}, {17, 17}, {14, 14}, {3, 3}, {1, 1}, {0, 0}, {-1, 0}, {math.MinInt, 0}} {
			for _, present := range []bool{false, true} {
				u := with(present, true, true)
				u.Last = last
				want := cloneUnit(u)
				want.Last = good
				v, k := check(t, "last", u, 0, 1, api.Command{Op: api.RequestSense, N: c.n, Bits: 1, Page: 3, At: 4})
				if !sameUnit(v, want) || !sameIntent(k, in(whole[:c.lens])) || k.Len != c.lens {
					t.Error(last, c, k)
				}
				if _, k = intent.Begin(v, 0, 1, api.Command{Op: api.RequestSense, N: 18}); k.Len != 18 || k.Data[2] != 0 || k.Data[12] != 0 || k.Data[13] != 0 {
					t.Error(last, c, "it is told twice:", k)
				}
			}
		}
	}
}

// P11.1: no other command changes the sense of the last one, and none but a StartStop the attentions; whether writes are cached no command changes at once.
func TestLeftAlone(t *testing.T) {
	for name, u := range units() {
		for _, op := range all {
			for _, n := range []int{0, 1, 4} {
				for bits := range 4 {
					v, _ := intent.Begin(u, 0, 1, api.Command{Op: op, N: n, Bits: bits, Page: 8})
					if v.Caching != u.Caching || v.Slot.Protect != u.Slot.Protect {
						t.Errorf("%s: %x changes the modes", name, op)
					}
					if op != 0x03 && v.Last != u.Last {
						t.Errorf("%s: %x changes the last sense", name, op)
					}
					if op != 0x1b && (!slices.Equal(v.Attentions, u.Attentions) || v.Slot.Present != u.Slot.Present) {
						t.Errorf("%s: %x changes attentions, or what is in", name, op)
					}
					if op != 0x1e && v.Slot.Latch != u.Slot.Latch {
						t.Errorf("%s: %x changes what is kept in", name, op)
					}
					if !slices.Equal(shows(v.Slot.Medium), shows(u.Slot.Medium)) {
						t.Errorf("%s: %x changes what is shown", name, op)
					}
				}
			}
		}
	}
}

// P11.1: TestReady: whether it is, and nothing else.
func TestTestReady(t *testing.T) {
	for _, present := range []bool{false, true} {
		for kind := range 4 {
			u := with(present, kind&1 == 1, kind&2 == 2)
			want := good
			if !present {
				want = notReady
			}
			for _, n := range []int{-1, 0, 1, 36} {
				if v, k := check(t, "ready", u, 0, 1, api.Command{Op: api.TestReady, N: n, Bits: n}); !sameIntent(k, none(want)) || !sameUnit(v, u) {
					t.Error(present, kind, k)
				}
			}
		}
	}
}

// P11.1: StartStop, of each Bits, written out: a medium that is in, is out, is kept in.
func TestStartStop(t *testing.T) {
	for _, c := range []struct {
		name           string
		u              api.Unit
		bits           int
		why            api.Sense
		present, fresh bool
		cached         int // writes that are cached behind it
	}{
		{"in", plain(), 0, good, true, false, 0},
		{"in", plain(), 1, good, true, false, 3},
		{"in", plain(), 2, good, false, false, 0},
		{"in", plain(), 3, good, true, false, 3},
		{"in", plain(), 4, good, true, false, 3},
		{"in", plain(), -1, good, true, false, 3},
		{"in", plain(), 256, good, true, false, 3},
		{"in", plain(), 258, good, true, false, 3},
		{"in", plain(), 1<<32 + 2, good, true, false, 3},
		{"in", plain(), math.MinInt, good, true, false, 3},
		{"in", plain(), math.MaxInt, good, true, false, 3},
		{"out", with(false, false, false), 0, notReady, false, false, 3},
		{"out", with(false, false, false), 1, notReady, false, false, 3},
		{"out", with(false, false, false), 2, notReady, false, false, 3},
		{"out", with(false, false, false), 3, good, true, true, 3},
		{"out", with(false, false, false), 7, notReady, false, false, 3},
		{"out", with(false, false, false), 259, notReady, false, false, 3},
		{"out", with(false, false, false), -1, notReady, false, false, 3},
		{"out, the latch is on", with(false, true, true), 2, notReady, false, false, 3},
		{"out, the latch is on", with(false, true, true), 3, good, true, true, 3},
		{"kept in", with(true, false, true), 0, good, true, false, 0},
		{"kept in", with(true, false, true), 1, good, true, false, 3},
		{"kept in", with(true, false, true), 2, kept, true, false, 3},
		{"kept in", with(true, false, true), 3, good, true, false, 3},
		{"protected", with(true, true, false), 0, good, true, false, 0},
		{"protected", with(true, true, false), 2, good, false, false, 0},
		{"its medium may not be", holding(medium(4, 4)), 0, good, true, false, 1},
		{"its medium may not be", holding(medium(4, 4)), 2, good, false, false, 1},
		{"zero", api.Unit{}, 3, good, true, true, 0},
	} {
		want := cloneUnit(c.u)
		want.Slot.Present = c.present
		if c.fresh {
			want.Attentions = append(want.Attentions, newMedium)
		}
		if c.cached == 0 {
			want.Slot.Medium = api.Medium{Blocks: shows(c.u.Slot.Medium)}
		}
		v, k := check(t, c.name, c.u, 0, 1, api.Command{Op: api.StartStop, Bits: c.bits, N: 5, At: 9})
		if !sameIntent(k, none(c.why)) || !sameUnit(v, want) || len(v.Slot.Medium.Dirty) != c.cached {
			t.Errorf("%s, %d: %v %v", c.name, c.bits, k, short(v))
		}
	}
}

// P11.1: attentions behind a medium that is put in: none more where they are full, nor where it waits already.
func TestNewMedium(t *testing.T) {
	for _, c := range []struct {
		l    []api.Sense
		more int
	}{{nil, 1}, {waiting(1), 1}, {waiting(3), 1}, {waiting(4), 0}, {waiting(7), 0}, {[]api.Sense{newMedium}, 0}, {append(waiting(2), newMedium), 0}, {append(waiting(3), newMedium), 0}} {
		v, k := check(t, "put in", attended(c.l), 0, 1, api.Command{Op: api.StartStop, Bits: 3})
		if len(v.Attentions) != len(c.l)+c.more || !slices.Equal(v.Attentions[:len(c.l)], c.l) || !v.Slot.Present || k.Sense != good {
			t.Error(c, v.Attentions, k)
		}
		w, _ := check(t, "it is in", v, 0, 1, api.Command{Op: api.StartStop, Bits: 3})
		if !sameUnit(w, v) {
			t.Error(c, "it is in already", w.Attentions)
		}
	}
}

// P11.1: Prevent: 1 keeps it in, all others don't; what isn't in isn't kept in, nor let go.
func TestPrevent(t *testing.T) {
	for _, bits := range anyInts {
		for _, latch := range []bool{false, true} {
			c := api.Command{Op: api.Prevent, Bits: bits}
			u := with(true, true, latch)
			want := with(true, true, bits == 1)
			if v, k := check(t, "in", u, 0, 1, c); !sameUnit(v, want) || !sameIntent(k, none(good)) {
				t.Error(bits, latch, k, short(v))
			}
			u.Slot.Present = false
			if v, k := check(t, "out", u, 0, 1, c); !sameUnit(v, u) || !sameIntent(k, none(notReady)) {
				t.Error(bits, latch, k, short(v))
			}
		}
	}
}

// P11.1: Capacity10 and Capacity16: of no medium, of none that may be, of few blocks and of many; the one is never cut, the other one is.
func TestCapacity(t *testing.T) {
	for _, c := range []struct {
		m    api.Medium
		want []byte // Capacity10's
	}{
		{medium(1), []byte{0, 0, 0, 0, 0, 0, 0, 64}},
		{medium(2, 1, 0), []byte{0, 0, 0, 1, 0, 0, 0, 64}},
		{medium(63), []byte{0, 0, 0, 62, 0, 0, 0, 64}},
		{medium(64, slices.Repeat([]int{3}, 64)...), []byte{0, 0, 0, 63, 0, 0, 0, 64}},
		{medium(0), []byte{255, 255, 255, 255, 0, 0, 0, 64}},
		{medium(65), []byte{255, 255, 255, 255, 0, 0, 0, 64}},
		{medium(4, 4), []byte{255, 255, 255, 255, 0, 0, 0, 64}},
		{medium(4, slices.Repeat([]int{3}, 65)...), []byte{255, 255, 255, 255, 0, 0, 0, 64}},
	} {
		high := c.want[:1]
		sixteen := append(slices.Concat(high, high, high, high, c.want), make([]byte, 20)...)
		for _, n := range manyNs {
			u := holding(c.m)
			if v, k := check(t, "10", u, 0, 1, api.Command{Op: api.Capacity10, N: n}); !sameIntent(k, in(c.want)) || k.Len != 8 || !sameUnit(v, u) {
				t.Error(len(c.m.Blocks), n, k)
			}
			if v, k := check(t, "16", u, 0, 1, api.Command{Op: api.Capacity16, N: n}); !sameIntent(k, in(cut(sixteen, n))) || k.Len != min(max(n, 0), 32) || !sameUnit(v, u) {
				t.Error(len(c.m.Blocks), n, k)
			}
			u.Slot.Present = false
			for _, op := range capacities {
				if v, k := check(t, "out", u, 0, 1, api.Command{Op: op, N: n}); !sameIntent(k, none(notReady)) || !sameUnit(v, u) {
					t.Error("out", len(c.m.Blocks), n, k)
				}
			}
		}
	}
}

// places are places of blocks of a store of four, and whether they are there.
var places = []struct {
	at   uint64
	n    int
	want api.Sense
}{
	{0, 0, good}, {0, 1, good}, {3, 1, good}, {0, 4, good}, {1, 3, good}, {1, 2, good}, {4, 0, good},
	{0, 5, outside}, {1, 4, outside}, {3, 2, outside}, {4, 1, outside}, {5, 0, outside}, {5, 1, outside}, {0, -1, outside}, {1, -1, outside}, {5, -1, outside},
	{0, math.MinInt, outside}, {4, math.MinInt, outside}, {1, math.MaxInt, outside}, {0, 1 << 32, outside}, {0, 1<<32 + 1, outside}, {1 << 32, 1, outside},
	{1<<63 - 1, 1, outside}, {1 << 63, 1, outside}, {1 << 63, math.MinInt, outside}, {math.MaxUint64, 0, outside}, {math.MaxUint64, 1, outside}, {math.MaxUint64, 2, outside}, {math.MaxUint64 - 1, 4, outside},
}

// P11.1: reads: no block, one, all, past the end, and so far that At and N wrap round; what is shown is read, and not what lasts.
func TestReads(t *testing.T) {
	shown := flat([]api.Block{wrote(1), lasts(1), wrote(2), lasts(3)})
	for _, op := range reads {
		for _, p := range places {
			for _, bits := range []int{0, 1, 2} {
				c := api.Command{Op: op, At: p.at, N: p.n, Bits: bits}
				for _, protect := range []bool{false, true} {
					u := with(true, protect, false)
					want := none(p.want)
					if p.want == good {
						want = in(shown[int(p.at)*size:][:p.n*size])
					}
					if v, k := check(t, "in", u, 0, 1, c); !sameIntent(k, want) || !sameUnit(v, u) {
						t.Errorf("%x, %v: %v", op, p, k)
					}
				}
				u := with(false, true, true)
				if v, k := check(t, "out", u, 0, 1, c); !sameIntent(k, none(notReady)) || !sameUnit(v, u) {
					t.Errorf("%x, %v: %v", op, p, k)
				}
			}
		}
	}
}

// P11.1: writes and verifies: of Bits 0, 1 and others, protected and not, with a job and without one; neither touches a block yet.
func TestWritesAndVerifies(t *testing.T) {
	for _, op := range slices.Concat(writes, verifies) {
		writing := slices.Contains(writes, op)
		for _, p := range places {
			for _, bits := range anyInts {
				c := api.Command{Op: op, At: p.at, N: p.n, Bits: bits, Page: bits}
				for kind := range 4 {
					u := with(kind&1 == 0, kind&2 == 2, true)
					why := p.want
					if !u.Slot.Present {
						why = notReady
					} else if u.Slot.Protect && writing {
						why = protected
					}
					want := none(why)
					if why == good && p.n > 0 && (writing || bits == 1) {
						want = out(c, p.n*64)
					}
					if v, k := check(t, "blocks", u, 0, 1, c); !sameIntent(k, want) || !sameUnit(v, u) {
						t.Errorf("%x, %v, %d, kind %d: %v", op, p, bits, kind, k)
					}
				}
			}
		}
	}
}

// P11.1: ModeSelects: a job of N bytes, or none; whether it is ready, or protected, doesn't count.
func TestModeSelects(t *testing.T) {
	for name, u := range units() {
		for _, op := range selects {
			for _, n := range manyNs {
				c := api.Command{Op: op, N: n, Bits: 1, Page: 9, At: 7}
				want := none(good)
				if n >= 1 && n <= 1<<32 {
					want = out(c, n)
				}
				if v, k := check(t, name, u, 0, 1, c); !sameIntent(k, want) || !sameUnit(v, u) {
					t.Errorf("%s, %x, %d: %v", name, op, n, k)
				}
			}
		}
	}
}

// P11.1: Synchronizes: part of the blocks, none (that is all from At on), all; the writes of others stay cached, and no others are flushed; a unit that is protected is no other.
func TestSynchronizes(t *testing.T) {
	ats := []int{2, 0, 3, 2, 0}
	for _, op := range synchronizes {
		for _, c := range []struct {
			at     uint64
			n      int
			cached []int // which of the writes stay
		}{
			{0, 0, nil}, {0, 4, nil}, {0, 1, []int{0, 2, 3}}, {1, 0, []int{1, 4}}, {1, 1, []int{0, 1, 2, 3, 4}}, {1, 2, []int{1, 2, 4}}, {2, 1, []int{1, 2, 4}}, {2, 2, []int{1, 4}},
			{3, 0, []int{0, 1, 3, 4}}, {3, 1, []int{0, 1, 3, 4}}, {0, 3, []int{2}}, {4, 0, []int{0, 1, 2, 3, 4}},
		} {
			for _, protect := range []bool{false, true} {
				u := holding(medium(4, ats...))
				u.Slot.Protect, u.Slot.Latch = protect, true
				want := cloneUnit(u)
				want.Slot.Medium.Dirty = nil
				for i, at := range ats {
					if slices.Contains(c.cached, i) {
						want.Slot.Medium.Dirty = append(want.Slot.Medium.Dirty, api.Dirty{At: at, Data: wrote(i)})
					} else {
						want.Slot.Medium.Blocks[at] = wrote(i)
					}
				}
				v, k := check(t, "some", u, 0, 1, api.Command{Op: op, At: c.at, N: c.n, Bits: 1})
				if !sameIntent(k, none(good)) || !sameUnit(v, want) {
					t.Errorf("%x, %v: %v %v", op, c, k, v.Slot.Medium.Dirty)
				}
			}
		}
		checkNotSynced(t, op)
	}
}

// checkNotSynced: what can't be flushed, and what needn't be.
func checkNotSynced(t *testing.T, op int) {
	t.Helper()
	for _, p := range places {
		c := api.Command{Op: op, At: p.at, N: p.n}
		u := holding(medium(4))
		if v, k := check(t, "no writes", u, 0, 1, c); !sameIntent(k, none(p.want)) || !sameUnit(v, u) {
			t.Errorf("%x, %v: %v", op, p, k)
		}
		u = with(false, true, false)
		if v, k := check(t, "out", u, 0, 1, c); !sameIntent(k, none(notReady)) || !sameUnit(v, u) {
			t.Errorf("%x, %v, out: %v", op, p, k)
		}
	}
	for name, m := range map[string]api.Medium{"a write of no block": medium(4, 1, 4), "of one below 0": medium(4, 1, -1), "too many writes": medium(4, slices.Repeat([]int{1}, 65)...), "too many blocks": medium(65, 1)} {
		u := holding(m)
		if v, k := check(t, name, u, 0, 1, api.Command{Op: op}); !sameIntent(k, none(good)) || !sameUnit(v, u) {
			t.Errorf("%x, %s: %v %v", op, name, k, short(v))
		}
		if v, k := check(t, name, u, 0, 1, api.Command{Op: op, N: 1}); !sameIntent(k, none(outside)) || !sameUnit(v, u) {
			t.Errorf("%x, %s: %v", op, name, k)
		}
	}
}

// P11.1: None has its sense, and nothing else.
func TestNone(t *testing.T) {
	for _, s := range []api.Sense{good, unknown, kept, {Key: -1}, {Code: math.MaxInt}, {Qual: math.MinInt}} {
		if k := intent.None(s); !sameIntent(k, api.Intent{Sense: s}) {
			t.Error(s, k)
		}
	}
}

// P11.1, P11.2: In of bytes, few and many, and of none, with a sense that is good, and ones that aren't.
func TestIn(t *testing.T) {
	for _, n := range []int{0, 1, 2, 36, 64, 4096, 100000} {
		b := make([]byte, n)
		for i := range b {
			b[i] = byte(i + n)
		}
		want := api.Intent{}
		if n > 0 {
			want = api.Intent{Dir: 1, Len: n, Data: b}
		}
		if k := intent.In(b, good); !sameIntent(k, want) {
			t.Error(n, k)
		}
		for _, s := range []api.Sense{field, {Key: 1}, {Code: 1}, {Qual: 1}, {Key: 256}, {Key: -1}, {Code: math.MinInt}, {Qual: math.MaxInt}} {
			if k := intent.In(b, s); !sameIntent(k, api.Intent{Sense: s}) {
				t.Error(n, s, k)
			}
		}
	}
	if k := intent.In(nil, good); !sameIntent(k, api.Intent{}) {
		t.Error(k)
	}
}

// The chapter's example: Read10 of two blocks.
func TestExample(t *testing.T) {
	_, k := intent.Begin(plain(), 0, 1, api.Command{Op: api.Read10, At: 1, N: 2})
	if b := flat([]api.Block{lasts(1), wrote(2)}); k.Dir != api.DirIn || k.Len != 128 || !bytes.Equal(k.Data, b) || k.Sense != good {
		t.Error(k)
	}
}

// P11.1, P11.2: one command behind the other, of any numbers, of one unit.
func TestAny(t *testing.T) {
	told := map[api.Sense]int{}
	for seed := range uint64(400) {
		r := rand.New(rand.NewPCG(seed, 11))
		blocks := 1 + r.IntN(8)
		u := holding(medium(blocks))
		for range 60 {
			c := api.Command{Op: all[r.IntN(len(all))], At: uint64(r.IntN(blocks + 2)), N: r.IntN(6), Page: []int{0, 8, 0x1c, 0x3f, 0x80}[r.IntN(5)], Bits: r.IntN(4)}
			if r.IntN(30) == 0 {
				c.Op = r.IntN(256)
			}
			v, k := check(t, "any", u, 0, 1, c)
			told[k.Sense]++
			u = v
			if d := (api.Dirty{At: r.IntN(blocks), Data: wrote(r.IntN(99))}); len(u.Slot.Medium.Dirty) < 64 && r.IntN(2) == 0 {
				u.Slot.Medium.Dirty = append(u.Slot.Medium.Dirty, d)
			}
			u.Last = k.Sense
			u.Slot.Protect = u.Slot.Protect != (r.IntN(20) == 0)
			u.Caching = r.IntN(2) == 0
		}
	}
	for _, why := range []api.Sense{good, notReady, protected, kept, outside, field, unknown, saving} {
		if told[why] == 0 {
			t.Error(why, "was never told")
		}
	}
}

// room is lists whose beginnings are handed in, with spare room behind them that isn't 0.
type room struct {
	blocks     []api.Block
	dirty      []api.Dirty
	attentions []api.Sense
}

// newRoom is such lists, always the same ones.
func newRoom() room {
	m := medium(70, slices.Repeat([]int{0, 1}, 40)...)
	return room{m.Blocks, m.Dirty, waiting(8)}
}

// same: are they as they were?
func (r room) same() bool {
	was := newRoom()
	return slices.Equal(r.blocks, was.blocks) && slices.Equal(r.dirty, was.dirty) && slices.Equal(r.attentions, was.attentions)
}

// wipe writes into a unit and an intent, and their lists' spare room.
func wipe(u api.Unit, k api.Intent) {
	m := u.Slot.Medium
	clear(m.Blocks[:cap(m.Blocks)])
	clear(m.Dirty[:cap(m.Dirty)])
	clear(u.Attentions[:cap(u.Attentions)])
	clear(k.Data[:cap(k.Data)])
	clear(k.Job.Rest[:cap(k.Job.Rest)])
}

// P11.1: the unit that was handed in stays as it was, the spare room of its lists too, and an answer is new memory: who writes into the one changes nothing of the other, nor of what a later call answers.
func TestArgumentsStay(t *testing.T) {
	for _, op := range append(slices.Clone(all), 0xff) {
		for _, n := range []int{0, 1, 4} {
			for bits := range 4 {
				for kind := range 8 {
					r := newRoom()
					c := api.Command{Op: op, N: n, Bits: bits, Page: 8}
					u := unit(api.Slot{Medium: api.Medium{Blocks: r.blocks[:4], Dirty: r.dirty[:3]}, Present: kind&1 == 0, Protect: kind&2 == 2, Latch: kind&4 == 4})
					u.Attentions = r.attentions[:2]
					was := cloneUnit(u)
					v, k := intent.Begin(u, 0, 1, c)
					if !r.same() || !sameUnit(u, was) {
						t.Fatal("changed", c)
					}
					wipe(v, k)
					if !r.same() || !sameUnit(u, was) {
						t.Fatal("shared", c)
					}
					check(t, "again", u, 0, 1, c)
				}
			}
		}
	}
}

// P11.1: the two lists of an answer share nothing: the bytes that are read aren't the unit's.
func TestApart(t *testing.T) {
	v, k := intent.Begin(plain(), 0, 1, api.Command{Op: api.Read10, N: 4})
	was := cloneUnit(v)
	clear(k.Data)
	if !sameUnit(v, was) {
		t.Error("the unit is another one", short(v))
	}
}

// P11.1: In leaves its bytes as they were, their spare room too, and has its own ones.
func TestInStays(t *testing.T) {
	b := []byte{1, 2, 3, 4, 5, 6}
	k := intent.In(b[:3], good)
	clear(k.Data[:cap(k.Data)])
	if !bytes.Equal(b, []byte{1, 2, 3, 4, 5, 6}) {
		t.Error(b)
	}
	k = intent.In(b[:3], good)
	clear(b)
	if !bytes.Equal(k.Data, []byte{1, 2, 3}) {
		t.Error(k)
	}
}
