package unit_test

import (
	"bytes"
	"math"
	"math/rand/v2"
	"slices"
	"testing"

	"reticule/api"
	"reticule/capacity"
	"reticule/cdb"
	"reticule/inquiry"
	"reticule/intent"
	"reticule/job"
	"reticule/slot"
	"reticule/unit"
)

// The senses that a unit tells, written out.
var (
	good      = api.Sense{}
	notReady  = api.Sense{Key: 0x2, Code: 0x3a}
	protected = api.Sense{Key: 0x7, Code: 0x27}
	kept      = api.Sense{Key: 0x5, Code: 0x53, Qual: 0x2}
	outside   = api.Sense{Key: 0x5, Code: 0x21}
	field     = api.Sense{Key: 0x5, Code: 0x24}
	unknown   = api.Sense{Key: 0x5, Code: 0x20}
	noUnit    = api.Sense{Key: 0x5, Code: 0x25}
	length    = api.Sense{Key: 0x5, Code: 0x1a}
	differs   = api.Sense{Key: 0xe, Code: 0x1d}
	powerOn   = api.Sense{Key: 0x6, Code: 0x29}
	busReset  = api.Sense{Key: 0x6, Code: 0x29, Qual: 0x2}
	unitReset = api.Sense{Key: 0x6, Code: 0x29, Qual: 0x3}
	nexusLoss = api.Sense{Key: 0x6, Code: 0x29, Qual: 0x7}
	newMedium = api.Sense{Key: 0x6, Code: 0x28}
)

// oddSenses are senses that may be handed in: ones that are told, and ones that none is.
var oddSenses = []api.Sense{good, powerOn, busReset, unitReset, nexusLoss, newMedium, kept, {Key: -1}, {Code: math.MaxInt}, {Qual: math.MinInt}, {Key: 0x106, Code: 0x129}}

// farLuns are numbers of which there is no unit, of less than 200.
var farLuns = []int{math.MinInt, math.MinInt + 1, -1 << 32, -256, -4, -3, -2, 200, 255, 256, 1 << 32, 1<<32 + 1, math.MaxInt - 1, math.MaxInt}

// lunsOf are numbers of units: all of so many, one below 0, one behind the last, and far beyond.
func lunsOf(count int) []int {
	l := append(slices.Clone(farLuns), -1, count)
	for lun := range count {
		l = append(l, lun)
	}
	return l
}

// lasts is what block i of the tests' media lasts as: no two are the same, and none is the data of a write.
func lasts(i int) (b api.Block) {
	for j := range b {
		b[j] = byte(j)
	}
	b[0], b[63] = byte(i), 1
	return b
}

// wrote is the data of the cached write i of the tests' media.
func wrote(i int) (b api.Block) {
	for j := range b {
		b[j] = byte(100 + j)
	}
	b[0], b[63] = byte(i), 2
	return b
}

// medium is so many blocks, and cached writes of these, one behind the other.
func medium(blocks int, ats ...int) api.Medium {
	m := api.Medium{Blocks: make([]api.Block, blocks)}
	for i := range m.Blocks {
		m.Blocks[i] = lasts(i)
	}
	for i, at := range ats {
		m.Dirty = append(m.Dirty, api.Dirty{At: at, Data: wrote(i)})
	}
	return m
}

// plain is a unit of four blocks, three writes of two of them cached, at which nothing waits, and whose last command was good.
func plain() api.Unit {
	return api.Unit{Slot: api.Slot{Medium: medium(4, 2, 0, 2), Present: true}, Caching: true}
}

// with is the plain unit, its slot set so.
func with(present, protect, latch bool) api.Unit {
	u := plain()
	u.Slot.Present, u.Slot.Protect, u.Slot.Latch = present, protect, latch
	return u
}

// told is the plain unit, whose last command was told that, and at which these attentions wait.
func told(last api.Sense, waits ...api.Sense) api.Unit {
	u := plain()
	u.Last, u.Attentions = last, waits
	return u
}

// holding is a plain unit with that medium.
func holding(m api.Medium) api.Unit {
	u := plain()
	u.Slot.Medium = m
	return u
}

// full is a unit at which all is set: it is kept in and protected, its writes go through, attentions wait, its last command wasn't good.
func full() api.Unit {
	u := with(true, true, true)
	u.Caching, u.Last, u.Attentions = false, kept, []api.Sense{busReset, newMedium, nexusLoss, unitReset}
	return u
}

// kinds are units of each kind that the chapter tells apart.
func kinds() []api.Unit {
	return []api.Unit{
		plain(), told(kept), full(), {},
		told(good, powerOn), told(protected, busReset, newMedium), told(kept, powerOn, busReset, newMedium, nexusLoss), told(good, powerOn, busReset, newMedium, nexusLoss, unitReset),
		told(kept, good), told(good, good, newMedium), told(api.Sense{Key: -1, Code: 0x1ff, Qual: math.MinInt}, api.Sense{Qual: -1}),
		with(false, false, false), with(false, true, true), with(true, true, false), with(true, false, true),
		holding(medium(0)), holding(medium(65, 1)), holding(medium(4, 1, 4)), holding(medium(4, slices.Repeat([]int{1}, 65)...)), holding(medium(64, slices.Repeat([]int{63, 0, 5, 63}, 16)...)),
	}
}

// among is so many units of which that one is u, and the others differ from each other, and have all that a call might touch.
func among(u api.Unit, lun, count int) []api.Unit {
	l := make([]api.Unit, count)
	for i := range l {
		l[i] = full()
		l[i].Slot.Medium.Blocks[0][1] = byte(200 + i)
		l[i].Slot.Latch, l[i].Slot.Present = i%2 == 0, i%3 != 2
		l[i].Last.Qual = i
	}
	l[lun] = u
	return l
}

// cloneUnit is the same unit in memory of its own, and cloneUnits are the same units.
func cloneUnit(u api.Unit) api.Unit {
	u.Slot.Medium = api.Medium{Blocks: slices.Clone(u.Slot.Medium.Blocks), Dirty: slices.Clone(u.Slot.Medium.Dirty)}
	u.Attentions = slices.Clone(u.Attentions)
	return u
}

func cloneUnits(l []api.Unit) []api.Unit {
	after := make([]api.Unit, len(l))
	for i, u := range l {
		after[i] = cloneUnit(u)
	}
	return after
}

// sameUnit, sameUnits, sameJob and sameIntent: are they the same, as a whole?
func sameUnit(a, b api.Unit) bool {
	return slices.Equal(a.Slot.Medium.Blocks, b.Slot.Medium.Blocks) && slices.Equal(a.Slot.Medium.Dirty, b.Slot.Medium.Dirty) &&
		a.Slot.Present == b.Slot.Present && a.Slot.Protect == b.Slot.Protect && a.Slot.Latch == b.Slot.Latch &&
		a.Caching == b.Caching && slices.Equal(a.Attentions, b.Attentions) && a.Last == b.Last
}

func sameUnits(a, b []api.Unit) bool { return slices.EqualFunc(a, b, sameUnit) }

func sameJob(a, b api.Job) bool {
	return a.Command == b.Command && a.Len == b.Len && a.Took == b.Took && bytes.Equal(a.Rest, b.Rest) && a.Bad == b.Bad
}

func sameIntent(a, b api.Intent) bool {
	return a.Dir == b.Dir && a.Len == b.Len && bytes.Equal(a.Data, b.Data) && a.Sense == b.Sense && sameJob(a.Job, b.Job)
}

// short tells units in a few words.
func short(l []api.Unit) []any {
	var w []any
	for _, u := range l {
		s := u.Slot
		w = append(w, len(s.Medium.Blocks), "blocks,", len(s.Medium.Dirty), "writes, present", s.Present, "protect", s.Protect, "latch", s.Latch, "caching", u.Caching, u.Attentions, u.Last, ";")
	}
	return w
}

// none and in are the intents without a direction, and to the host.
func none(why api.Sense) api.Intent { return api.Intent{Sense: why} }

func in(b []byte) api.Intent {
	if len(b) == 0 {
		return api.Intent{}
	}
	return api.Intent{Dir: 1, Len: len(b), Data: b}
}

// cut is the first n bytes, as far as there are so many.
func cut(b []byte, n int) []byte { return b[:min(n, len(b))] }

// noUnitBytes are the bytes of the sense that there is no unit.
func noUnitBytes() []byte { return []byte{0x70, 0, 5, 0, 0, 0, 0, 10, 0, 0, 0, 0, 0x25, 0, 0, 0, 0, 0} }

// answered is the intent for what a layer answers.
func answered(b []byte, why api.Sense) api.Intent {
	if why != good {
		return none(why)
	}
	return in(b)
}

// wantedNowhere is what a command must be answered of which there is no unit. Of layers 6, 7 and 9 it takes what they answer.
func wantedNowhere(lun, luns int, b []byte) api.Intent {
	c, why := cdb.Parse(b)
	switch {
	case why != good:
		return none(why)
	case c.Op == 0x12:
		return answered(inquiry.Answer(c, lun, luns))
	case c.Op == 0xa0:
		return in(capacity.Luns(luns, c.N))
	case c.Op == 0x03:
		return in(cut(noUnitBytes(), c.N))
	}
	return none(noUnit)
}

// wanted is what Command must answer. Of layers 6 and 11 it takes what they answer, all else it says of its own.
func wanted(l []api.Unit, lun int, b []byte) ([]api.Unit, api.Intent) {
	l = cloneUnits(l)
	if lun < 0 || lun >= len(l) {
		return l, wantedNowhere(lun, len(l), b)
	}
	first := -1
	if len(b) > 0 {
		first = int(b[0])
	}
	u := &l[lun]
	if len(u.Attentions) > 0 && first != 0x03 && first != 0x12 && first != 0xa0 {
		why := u.Attentions[0]
		u.Attentions, u.Last = u.Attentions[1:], good
		return l, none(why)
	}
	if first != 0x03 {
		u.Last = good
	}
	c, k := api.Command{}, api.Intent{}
	if c, k.Sense = cdb.Parse(b); k.Sense == good {
		l[lun], k = intent.Begin(*u, lun, len(l), c)
	}
	return l, k
}

// check holds Command against wanted, and answers what Command answers.
func check(t *testing.T, l []api.Unit, lun int, b []byte) ([]api.Unit, api.Intent) {
	t.Helper()
	was, bytesWere := cloneUnits(l), slices.Clone(b)
	wantUnits, want := wanted(l, lun, b)
	m, k := unit.Command(l, lun, b)
	if !sameUnits(m, wantUnits) || !sameIntent(k, want) {
		t.Fatalf("%x to unit %d of %d:\ngot %v %v\nwant %v %v", b, lun, len(l), k, short(m), want, short(wantUnits))
	}
	if !sameUnits(l, was) || !bytes.Equal(b, bytesWere) {
		t.Fatalf("%x to unit %d: what was handed in was changed", b, lun)
	}
	return m, k
}

// bytesOf is a command's bytes.
func bytesOf(c api.Command) []byte {
	b, ok := cdb.Bytes(c)
	if !ok {
		panic(c)
	}
	return b
}

// Commands, their bytes written out.
var (
	testReady  = []byte{0x00, 0, 0, 0, 0, 0}
	tellSense  = []byte{0x03, 0, 0, 0, 18, 0}
	badSense   = []byte{0x03, 1, 0, 0, 18, 0}
	ask        = []byte{0x12, 0, 0, 0, 36, 0}
	badAsk     = []byte{0x12, 0, 0x80, 0, 36, 0}
	luns       = []byte{0xa0, 0, 0, 0, 0, 0, 0, 0, 0, 255, 0, 0}
	badLuns    = []byte{0xa0, 0, 0, 0, 0, 0, 0, 0, 0, 15, 0, 0}
	readTwo    = []byte{0x28, 0, 0, 0, 0, 1, 0, 0, 2, 0}
	readBehind = []byte{0x28, 0, 0, 0, 0, 4, 0, 0, 1, 0}
	writeOne   = []byte{0x2a, 0, 0, 0, 0, 3, 0, 0, 1, 0}
	keepIn     = []byte{0x1e, 0, 0, 0, 1, 0}
	takeOut    = []byte{0x1b, 0, 0, 0, 2, 0}
	putIn      = []byte{0x1b, 0, 0, 0, 3, 0}
	flushAll   = []byte{0x35, 0, 0, 0, 0, 0, 0, 0, 0, 0}
)

// commands are bytes of each command of layer 6, of some that can't be parsed, of none, of too few, and of too many.
func commands() [][]byte {
	l := [][]byte{nil, {}, {0x00}, {0x03}, {0x12}, {0xa0}, {0x28}, {0xff}, {0x29, 0, 0, 0, 0, 0, 0, 0, 0, 0}, testReady, tellSense, badSense, ask, badAsk, luns, badLuns, readTwo, readBehind, writeOne, keepIn, takeOut, putIn, flushAll,
		ask[:5], luns[:11], tellSense[:5], {0x03, 0, 0, 0, 18, 1}, {0x12, 0, 0, 0, 36, 1}, {0x03, 0, 0, 0, 0, 0}, {0x03, 0, 0, 0, 17, 0}, {0x03, 0, 0, 0, 255, 0},
		append(slices.Clone(tellSense), 9, 9), append(slices.Clone(ask), 1), append(slices.Clone(testReady), 0xff), slices.Concat(luns, luns)}
	for _, c := range []api.Command{{Op: api.Inquiry}, {Op: api.Inquiry, N: 9}, {Op: api.Inquiry, N: 65535, Page: 0x80, Bits: 1}, {Op: api.Inquiry, N: 255, Page: 0x81, Bits: 1}, {Op: api.ReportLuns, N: 16}, {Op: api.ReportLuns, N: 1 << 20},
		{Op: api.ModeSense6, N: 255, Page: 8}, {Op: api.ModeSense10, N: 255, Page: 63}, {Op: api.ModeSelect6, N: 24}, {Op: api.ModeSelect10, N: 28}, {Op: api.ModeSelect6}, {Op: api.Prevent}, {Op: api.StartStop}, {Op: api.StartStop, Bits: 1},
		{Op: api.Capacity10}, {Op: api.Capacity16, N: 32}, {Op: api.Capacity16}, {Op: api.Read6, N: 3}, {Op: api.Write6, N: 4}, {Op: api.Read10}, {Op: api.Read12, N: 4, Bits: 1}, {Op: api.Write12, N: 4}, {Op: api.Read16, At: math.MaxUint64, N: 1}, {Op: api.Write16, N: 1, Bits: 1},
		{Op: api.Verify10, N: 2}, {Op: api.Verify12, N: 2, Bits: 1}, {Op: api.Verify16, N: 5, Bits: 1}, {Op: api.Synchronize10, At: 1, N: 2}, {Op: api.Synchronize16, At: 2}} {
		l = append(l, bytesOf(c))
	}
	return l
}

// P12.1: Make of luns and blocks at the ends of what they may be, and beyond.
func TestMake(t *testing.T) {
	numbers := []int{math.MinInt, -1 << 32, -64, -4, -1, 0, 1, 2, 3, 4, 5, 63, 64, 65, 256, 1 << 32, 1<<32 + 1, math.MaxInt}
	made := 0
	for _, count := range numbers {
		for _, blocks := range numbers {
			l, e := unit.Make(count, blocks)
			if count < 1 || count > 4 || blocks < 1 || blocks > 64 {
				if e != api.ErrArg || len(l) != 0 {
					t.Error(count, blocks, e, len(l))
				}
				continue
			}
			made++
			want := slices.Repeat([]api.Unit{{Slot: api.Slot{Medium: api.Medium{Blocks: make([]api.Block, blocks)}, Present: true}, Caching: true, Attentions: []api.Sense{powerOn}}}, count)
			if e != api.OK || !sameUnits(l, want) {
				t.Error(count, blocks, e, short(l))
			}
		}
	}
	if made != 4*7 {
		t.Error("made", made)
	}
}

// P12.1: units that were made share nothing with each other, nor with those that are made later.
func TestMadeApart(t *testing.T) {
	l, _ := unit.Make(4, 64)
	m, _ := unit.Make(4, 64)
	for i := range l {
		was := cloneUnits(l)
		for j := range l[i].Slot.Medium.Blocks {
			l[i].Slot.Medium.Blocks[j] = wrote(i)
		}
		l[i].Attentions[0] = busReset
		was[i] = cloneUnit(l[i])
		_ = append(l[i].Attentions, newMedium)
		_ = append(l[i].Slot.Medium.Blocks, wrote(9))
		if !sameUnits(l, was) {
			t.Error("unit", i, "shares something with another one")
		}
	}
	if n, _ := unit.Make(4, 64); !sameUnits(m, n) || n[0].Slot.Medium.Blocks[0] != (api.Block{}) || n[3].Attentions[0] != powerOn {
		t.Error("units that were made are kept")
	}
}

// The chapter's example: Inquiry is answered; TestReady is told 6 29 0; TestReady again is good.
func TestExample(t *testing.T) {
	l, _ := unit.Make(1, 8)
	l, k := check(t, l, 0, ask)
	if want := append([]byte{0, 0x80, 6, 2, 0x1f, 0, 0, 2}, "RETICULEGADGET DISK     0001"...); !sameIntent(k, in(want)) {
		t.Error(k)
	}
	l, k = check(t, l, 0, testReady)
	if !sameIntent(k, none(powerOn)) {
		t.Error(k)
	}
	if _, k = check(t, l, 0, testReady); !sameIntent(k, none(good)) {
		t.Error(k)
	}
}

// P12.1: each command of layer 6, and bytes that are none, of each kind of unit, each number of a unit, and how many there may be.
func TestCommands(t *testing.T) {
	for _, b := range commands() {
		for i, u := range kinds() {
			check(t, []api.Unit{u}, 0, b)
			check(t, among(u, i%4, 4), i%4, b)
			check(t, among(u, 2, 6), 2, b)
		}
		for count := range 6 {
			var l []api.Unit
			if count > 0 {
				l = among(plain(), 0, count)
			}
			for _, lun := range lunsOf(count) {
				check(t, l, lun, b)
			}
		}
	}
}

// P12.1: bytes of any first byte, few and many: while attentions wait, and while none do, and where there is no unit.
func TestAnyBytes(t *testing.T) {
	for first := range 256 {
		for _, size := range []int{1, 2, 5, 6, 7, 9, 10, 11, 12, 13, 15, 16, 17, 64} {
			b := make([]byte, size)
			b[0] = byte(first)
			for _, l := range [][]api.Unit{{told(kept)}, {told(kept, newMedium)}, {told(kept, nexusLoss, powerOn)}, nil} {
				check(t, l, 0, b)
				for i := 1; i < size; i++ {
					b[i] = 0x10
				}
				check(t, l, 0, b)
				clear(b[1:])
			}
		}
	}
}

// nowhere are commands of which there is no unit, of two, and what they are answered, written out.
func nowhere() map[string]struct {
	b    []byte
	want api.Intent
} {
	standard := append([]byte{0x7f, 0x80, 6, 2, 0x1f, 0, 0, 2}, "RETICULEGADGET DISK     0001"...)
	list := []byte{0, 0, 0, 16, 0, 0, 0, 0, 0, 0, 0, 0, 0, 0, 0, 0, 0, 1, 0, 0, 0, 0, 0, 0}
	return map[string]struct {
		b    []byte
		want api.Intent
	}{
		"Inquiry, whole":               {[]byte{0x12, 0, 0, 0, 255, 0}, in(standard)},
		"Inquiry":                      {ask, in(standard)},
		"Inquiry, cut":                 {[]byte{0x12, 0, 0, 0, 9, 0}, in(standard[:9])},
		"Inquiry, of no bytes":         {[]byte{0x12, 0, 0, 0, 0, 0}, none(good)},
		"Inquiry, page 0":              {[]byte{0x12, 1, 0, 0, 255, 0}, in([]byte{0x7f, 0, 0, 4, 0, 0x80, 0x83, 0xb0})},
		"Inquiry, page b0, cut":        {[]byte{0x12, 1, 0xb0, 0, 5, 0}, in([]byte{0x7f, 0xb0, 0, 60, 0})},
		"Inquiry, no such page":        {[]byte{0x12, 1, 0x81, 0, 255, 0}, none(field)},
		"Inquiry, none, of no bytes":   {[]byte{0x12, 1, 0x81, 0, 0, 0}, none(field)},
		"Inquiry, a page without Bits": {badAsk, none(field)},
		"Inquiry, too short":           {ask[:5], none(field)},
		"Inquiry, bytes behind it":     {append(slices.Clone(ask), 7), in(standard)},
		"ReportLuns":                   {luns, in(list)},
		"ReportLuns, cut":              {[]byte{0xa0, 0, 0, 0, 0, 0, 0, 0, 0, 17, 0, 0}, in(list[:17])},
		"ReportLuns, of too few bytes": {badLuns, none(field)},
		"ReportLuns, of what isn't":    {[]byte{0xa0, 0, 3, 0, 0, 0, 0, 0, 0, 255, 0, 0}, none(field)},
		"RequestSense":                 {tellSense, in(noUnitBytes())},
		"RequestSense, whole":          {[]byte{0x03, 0, 0, 0, 255, 0}, in(noUnitBytes())},
		"RequestSense, cut":            {[]byte{0x03, 0, 0, 0, 13, 0}, in(noUnitBytes()[:13])},
		"RequestSense, of one byte":    {[]byte{0x03, 0, 0, 0, 1, 0}, in(noUnitBytes()[:1])},
		"RequestSense, of no bytes":    {[]byte{0x03, 0, 0, 0, 0, 0}, none(good)},
		"RequestSense, otherwise":      {badSense, none(field)},
		"RequestSense, a byte of it":   {tellSense[:1], none(field)},
		"TestReady":                    {testReady, none(noUnit)},
		"TestReady, its last byte":     {[]byte{0, 0, 0, 0, 0, 1}, none(field)},
		"Read10":                       {readTwo, none(noUnit)},
		"Read10, too short":            {readTwo[:9], none(field)},
		"Read10, of no block":          {readBehind, none(noUnit)},
		"Write10":                      {writeOne, none(noUnit)},
		"StartStop":                    {putIn, none(noUnit)},
		"StartStop, otherwise":         {[]byte{0x1b, 0, 0, 0, 0x11, 0}, none(field)},
		"ModeSense6":                   {[]byte{0x1a, 0, 9, 0, 255, 0}, none(noUnit)},
		"ModeSelect6":                  {[]byte{0x15, 0x10, 0, 0, 24, 0}, none(noUnit)},
		"Capacity10":                   {[]byte{0x25, 0, 0, 0, 0, 0, 0, 0, 0, 0}, none(noUnit)},
		"no op":                        {[]byte{0xff}, none(unknown)},
		"no op, of ten bytes":          {[]byte{0x29, 0, 0, 0, 0, 0, 0, 0, 0, 0}, none(unknown)},
		"no bytes":                     {nil, none(unknown)},
	}
}

// P12.1: there is no such unit: what is answered nevertheless, cut and not, and what not; the units stay as they were, attentions wait on, and a Last is as it was.
func TestNoSuchUnit(t *testing.T) {
	for name, c := range nowhere() {
		for _, lun := range append(slices.Clone(farLuns), -1, 2) {
			l := []api.Unit{full(), told(kept, powerOn)}
			if m, k := check(t, l, lun, c.b); !sameIntent(k, c.want) || !sameUnits(m, l) {
				t.Errorf("%s, %d: %v %v", name, lun, k, short(m))
			}
		}
	}
}

// P12.1: no units at all: there is none of any number, and the list of units is empty.
func TestNoUnits(t *testing.T) {
	for _, l := range [][]api.Unit{nil, {}} {
		for _, lun := range lunsOf(0) {
			if m, k := check(t, l, lun, luns); !sameIntent(k, in(make([]byte, 8))) || len(m) != 0 {
				t.Error(lun, k)
			}
			if _, k := check(t, l, lun, tellSense); !sameIntent(k, in(noUnitBytes())) {
				t.Error(lun, k)
			}
			if _, k := check(t, l, lun, ask); k.Len != 36 || k.Data[0] != 0x7f {
				t.Error(lun, k)
			}
			if _, k := check(t, l, lun, testReady); !sameIntent(k, none(noUnit)) {
				t.Error(lun, k)
			}
		}
		if m := unit.Power(l, 3); len(m) != 0 {
			t.Error(short(m))
		}
	}
}

// P12.1: how many units there are counts for what a unit that there is tells, too; more than there may be are no fewer units.
func TestHowMany(t *testing.T) {
	for count := 1; count <= 9; count++ {
		l := make([]api.Unit, count)
		for lun := range count {
			if _, k := check(t, l, lun, luns); k.Len != 8+8*min(count, 4) || int(k.Data[3]) != k.Len-8 {
				t.Error(count, lun, k)
			}
			if _, k := check(t, l, lun, ask); k.Len != 36 || k.Data[0] != 0 {
				t.Error(count, lun, k)
			}
			serial := []byte{0x12, 1, 0x80, 0, 255, 0}
			if _, k := check(t, l, lun, serial); !sameIntent(k, in(append([]byte("\x00\x80\x00\x08RT00000"), byte('0'+lun%8)))) {
				t.Error(count, lun, k)
			}
		}
	}
}

// P12.1, P12.2: while attentions wait, one, several, and as many as may: RequestSense, Inquiry and ReportLuns are answered, and nothing is told, nor are those of them that can't be parsed.
func TestNotTold(t *testing.T) {
	whole := []byte{0x70, 0, 5, 0, 0, 0, 0, 10, 0, 0, 0, 0, 0x53, 2, 0, 0, 0, 0}
	for _, waits := range [][]api.Sense{{powerOn}, {good}, {newMedium, busReset}, {powerOn, busReset, newMedium, nexusLoss}, {busReset, busReset, busReset, busReset, busReset, busReset}} {
		for i, c := range []struct {
			b    []byte
			want api.Intent
			last api.Sense // behind it
		}{
			{tellSense, in(whole), good}, {[]byte{3, 0, 0, 0, 4, 0}, in(whole[:4]), good}, {[]byte{3, 0, 0, 0, 0, 0}, none(good), good},
			{badSense, none(field), kept}, {[]byte{3}, none(field), kept}, {[]byte{3, 0, 0, 0, 18, 1}, none(field), kept}, {tellSense[:5], none(field), kept},
			{[]byte{0x12, 0, 0, 0, 5, 0}, in([]byte{0, 0x80, 6, 2, 0x1f}), good}, {badAsk, none(field), good}, {[]byte{0x12}, none(field), good}, {[]byte{0x12, 1, 0x81, 0, 9, 0}, none(field), good},
			{luns, in([]byte{0, 0, 0, 8, 0, 0, 0, 0, 0, 0, 0, 0, 0, 0, 0, 0}), good}, {badLuns, none(field), good}, {[]byte{0xa0}, none(field), good},
		} {
			u := told(kept, waits...)
			want := told(c.last, waits...)
			if m, k := check(t, []api.Unit{u}, 0, c.b); !sameIntent(k, c.want) || !sameUnit(m[0], want) {
				t.Error(i, waits, k, short(m))
			}
		}
	}
}

// P12.1, P12.2: while attentions wait the first one is told to any other bytes, whatever they would say, and nothing is done by them; it waits no more, and Last is good.
func TestTold(t *testing.T) {
	for _, b := range [][]byte{nil, {}, {0}, {0xff}, {0x1b}, {0x83}, {0x92}, {0x20}, testReady, {0, 0, 0, 0, 0, 1}, readTwo, readBehind, writeOne, keepIn, takeOut, putIn, flushAll, bytesOf(api.Command{Op: api.ModeSense6, N: 9, Page: 8}), bytesOf(api.Command{Op: api.ModeSelect6, N: 24}), bytesOf(api.Command{Op: api.Capacity10}), bytesOf(api.Command{Op: api.Verify10, N: 1, Bits: 1})} {
		for _, waits := range [][]api.Sense{{powerOn}, {good}, {good, powerOn}, {newMedium, busReset}, {powerOn, busReset, newMedium, nexusLoss}, {unitReset, powerOn, busReset, newMedium, nexusLoss}, {busReset, busReset}, {{Key: -1, Code: math.MaxInt, Qual: math.MinInt}}} {
			for _, last := range []api.Sense{good, kept} {
				u := told(last, waits...)
				want := told(good, waits[1:]...)
				if m, k := check(t, []api.Unit{u}, 0, b); !sameIntent(k, none(waits[0])) || !sameUnit(m[0], want) {
					t.Errorf("%x, %v: %v %v", b, waits, k, short(m))
				}
			}
		}
	}
}

// P12.1: a Last that is good, and ones that aren't: RequestSense tells it, once; ahead of any other command it is good, even of one that can't be parsed; but of a RequestSense that can't be it stays.
func TestLast(t *testing.T) {
	for _, last := range []api.Sense{good, kept, protected, {Key: 0x105, Code: -1, Qual: 3}} {
		whole := []byte{0x70, 0, byte(last.Key), 0, 0, 0, 0, 10, 0, 0, 0, 0, byte(last.Code), byte(last.Qual), 0, 0, 0, 0}
		for i, c := range []struct {
			b      []byte
			want   api.Intent
			behind api.Sense
		}{
			{tellSense, in(whole), good}, {append(slices.Clone(tellSense), 1, 2, 3), in(whole), good}, {[]byte{3, 0, 0, 0, 255, 0}, in(whole), good}, {[]byte{3, 0, 0, 0, 1, 0}, in(whole[:1]), good}, {[]byte{3, 0, 0, 0, 0, 0}, none(good), good},
			{badSense, none(field), last}, {[]byte{3}, none(field), last}, {[]byte{3, 0, 0, 0, 18, 1}, none(field), last},
			{testReady, none(good), good}, {[]byte{0}, none(field), good}, {[]byte{0, 0, 0, 0, 0, 1}, none(field), good}, {[]byte{0xff}, none(unknown), good}, {nil, none(unknown), good}, {[]byte{}, none(unknown), good},
			{badAsk, none(field), good}, {badLuns, none(field), good}, {readBehind, none(outside), good},
		} {
			m, k := check(t, []api.Unit{told(last)}, 0, c.b)
			if !sameIntent(k, c.want) || !sameUnit(m[0], told(c.behind)) {
				t.Error(i, last, k, short(m))
			}
			if n, k := check(t, m, 0, tellSense); len(k.Data) != 18 || k.Data[2] != byte(c.behind.Key) || n[0].Last != good {
				t.Error(i, last, "then", k)
			}
		}
	}
}

// P12.1: what a command does is done to its unit, written out: its bytes are read, it is kept in, taken out, put in, flushed.
func TestDone(t *testing.T) {
	l := []api.Unit{full(), plain(), full()}
	two := slices.Concat(block(lasts(1)), block(wrote(2)))
	if m, k := check(t, l, 1, readTwo); !sameIntent(k, in(two)) || !sameUnits(m, l) {
		t.Error(k)
	}
	c := api.Command{Op: api.Write10, At: 3, N: 1}
	if m, k := check(t, l, 1, writeOne); !sameIntent(k, api.Intent{Dir: 2, Len: 64, Job: api.Job{Command: c, Len: 64}}) || !sameUnits(m, l) {
		t.Error(k)
	}
	m, k := check(t, l, 1, keepIn)
	if k.Sense != good || !m[1].Slot.Latch {
		t.Error(k)
	}
	if n, k := check(t, m, 1, takeOut); k.Sense != kept || !sameUnits(n, m) {
		t.Error(k)
	}
	m, k = check(t, l, 1, takeOut)
	if k.Sense != good || m[1].Slot.Present || len(m[1].Slot.Medium.Dirty) != 0 || m[1].Slot.Medium.Blocks[2] != wrote(2) {
		t.Error(k)
	}
	if n, k := check(t, m, 1, testReady); k.Sense != notReady || !sameUnits(n, m) {
		t.Error(k)
	}
	m, k = check(t, m, 1, putIn)
	if k.Sense != good || !m[1].Slot.Present || !slices.Equal(m[1].Attentions, []api.Sense{newMedium}) {
		t.Error(k)
	}
	if m, k = check(t, l, 1, flushAll); k.Sense != good || len(m[1].Slot.Medium.Dirty) != 0 || m[1].Slot.Medium.Blocks[0] != wrote(1) {
		t.Error(k)
	}
	if _, k = check(t, []api.Unit{with(true, true, false)}, 0, writeOne); !sameIntent(k, none(protected)) {
		t.Error(k)
	}
}

// block is the bytes of one.
func block(b api.Block) []byte { return b[:] }

// P12.2: each attention that waits is told once, in order, and to none but a command that may be told it, whatever comes between; then none is told.
func TestOnce(t *testing.T) {
	waits := []api.Sense{powerOn, busReset, newMedium, nexusLoss}
	list := commands()
	for seed := range uint64(300) {
		r := rand.New(rand.NewPCG(seed, 12))
		some := waits[:r.IntN(5)]
		l := among(told(kept, some...), 1, 3)
		var got []api.Sense
		for range 60 {
			b := list[r.IntN(len(list))]
			if len(b) > 0 && b[0] == 0x1b {
				continue // what is put in is told as one more
			}
			m, k := check(t, l, 1, b)
			switch {
			case k.Sense.Key == 6 && len(b) > 0 && (b[0] == 0x03 || b[0] == 0x12 || b[0] == 0xa0):
				t.Fatalf("%x is told %v", b, k.Sense)
			case k.Sense.Key == 6:
				got = append(got, k.Sense)
			case len(m[1].Attentions) != len(l[1].Attentions):
				t.Fatalf("%x: lost ahead of %v", b, m[1].Attentions)
			}
			l = m
		}
		if !slices.Equal(got, some[:len(got)]) || !slices.Equal(l[1].Attentions, some[len(got):]) || len(got) < min(len(some), 3) {
			t.Error(seed, some, got, l[1].Attentions)
		}
	}
}

// P12.2: each unit is told its own ones: who is told one leaves it to the others.
func TestOnceEach(t *testing.T) {
	l, _ := unit.Make(4, 2)
	l = unit.Attend(l, -1, busReset)
	for _, want := range []api.Sense{powerOn, busReset, good} {
		for lun := range l {
			m, k := check(t, l, lun, testReady)
			if k.Sense != want {
				t.Error(lun, k.Sense, want)
			}
			l = m
		}
	}
}

// jobs are jobs that may be, and ones that may not, of units of four blocks.
func jobs() []api.Job {
	write := api.Command{Op: api.Write10, At: 1, N: 2}
	return []api.Job{
		{Command: write, Len: 128}, {Command: write, Len: 128, Took: 70, Rest: make([]byte, 6, 100)}, {Command: write, Len: 128, Took: 128}, {Command: write, Len: 128, Took: 64, Bad: protected},
		{Command: api.Command{Op: api.Write10, At: 1, N: 2, Bits: 1}, Len: 128}, {Command: api.Command{Op: api.Write6, At: 3, N: 2}, Len: 128}, {Command: api.Command{Op: api.Write16, At: math.MaxUint64, N: 1}, Len: 64},
		{Command: api.Command{Op: api.Verify10, At: 1, N: 1, Bits: 1}, Len: 64}, {Command: api.Command{Op: api.Verify12, N: 1}, Len: 64}, {Command: api.Command{Op: api.ModeSelect6, N: 4}, Len: 4}, {Command: api.Command{Op: api.ModeSelect6, N: 4}, Len: 4, Took: 4, Rest: make([]byte, 4)},
		{}, {Command: write, Len: 64}, {Command: write, Len: 128, Took: 5}, {Command: write, Len: 128, Took: -1}, {Command: api.Command{Op: -1, N: 1}, Len: math.MinInt, Took: math.MaxInt, Rest: []byte{1}}, {Command: api.Command{Op: api.Read10, N: 1}, Len: 64},
	}
}

// P12.1: Take and Finish are layer 10's, of that unit; the other units stay as they were, and of no unit nothing is taken, and it ends with NoUnit, whatever the job.
func TestTakeAndFinish(t *testing.T) {
	for _, u := range kinds() {
		for i, j := range jobs() {
			for _, lun := range append(slices.Clone(farLuns), -1, 0, 1, 3, 4) {
				there := lun >= 0 && lun < 4
				l := among(u, max(0, min(lun, 3)), 4)
				if i%5 == 0 {
					checkJob(t, l, lun, there, j, nil)
				}
				checkJob(t, l, lun, there, j, bytes.Repeat([]byte{7, 8, 9}, 20*i))
			}
		}
	}
}

// checkJob holds Take and Finish against layer 10's.
func checkJob(t *testing.T, l []api.Unit, lun int, there bool, j api.Job, b []byte) {
	t.Helper()
	was, jobWas, bytesWere := cloneUnits(l), j, slices.Clone(b)
	jobWas.Rest = slices.Clone(j.Rest)
	took, ended := cloneUnits(l), cloneUnits(l)
	wantJob, wantWhy := j, noUnit
	if there {
		took[lun], wantJob = job.Take(l[lun], j, b)
		ended[lun], wantWhy = job.Finish(l[lun], j)
	}
	if m, k := unit.Take(l, lun, j, b); !sameUnits(m, took) || !sameJob(k, wantJob) {
		t.Fatal("take", lun, j, k, short(m))
	}
	if m, why := unit.Finish(l, lun, j); !sameUnits(m, ended) || why != wantWhy {
		t.Fatal("finish", lun, j, why, short(m))
	}
	if !sameUnits(l, was) || !sameJob(j, jobWas) || !bytes.Equal(b, bytesWere) {
		t.Fatal("what was handed in was changed", lun, j)
	}
}

// P12.1: a write, a verify and a mode select of one unit, from their bytes to their end, written out.
func TestJobs(t *testing.T) {
	l := []api.Unit{plain(), plain(), plain()}
	m, k := check(t, l, 2, writeOne)
	m, j := unit.Take(m, 2, k.Job, block(wrote(9))[:40])
	if j.Took != 40 || len(j.Rest) != 40 || !sameUnits(m, l) {
		t.Error(j)
	}
	if _, why := unit.Finish(m, 2, j); why != length {
		t.Error(why)
	}
	m, j = unit.Take(m, 2, j, append(block(wrote(9))[40:], 1, 2, 3))
	want := []api.Unit{plain(), plain(), holding(medium(4, 2, 0, 2))}
	want[2].Slot.Medium.Dirty = append(want[2].Slot.Medium.Dirty, api.Dirty{At: 3, Data: wrote(9)})
	if j.Took != 64 || len(j.Rest) != 0 || !sameUnits(m, want) {
		t.Error(j, short(m))
	}
	if n, why := unit.Finish(m, 2, j); why != good || !sameUnits(n, want) {
		t.Error(why)
	}
	verify := api.Job{Command: api.Command{Op: api.Verify10, At: 3, N: 1, Bits: 1}, Len: 64}
	for lun, why := range []api.Sense{differs, differs, good} {
		n, k := unit.Take(m, lun, verify, block(wrote(9)))
		if _, got := unit.Finish(n, lun, k); got != why || !sameUnits(n, want) {
			t.Error(lun, got)
		}
	}
	modes := append(make([]byte, 4), append([]byte{8, 0x12, 0}, make([]byte, 17)...)...)
	n, j := unit.Take(m, 1, api.Job{Command: api.Command{Op: api.ModeSelect6, N: 24}, Len: 24}, modes)
	n, why := unit.Finish(n, 1, j)
	if want[1].Caching = false; why != good || !sameUnits(n, want) {
		t.Error(why, short(n))
	}
}

// P12.1: Keep: that unit's Last, and nothing else, whatever it was.
func TestKeep(t *testing.T) {
	for _, u := range kinds() {
		for _, s := range oddSenses {
			for lun := range 4 {
				l := among(u, lun, 4)
				want := cloneUnits(l)
				want[lun].Last = s
				if m := unit.Keep(l, lun, s); !sameUnits(m, want) {
					t.Fatal(lun, s, short(m))
				}
			}
		}
	}
	l := unit.Keep([]api.Unit{told(good, powerOn)}, 0, protected)
	if _, k := check(t, l, 0, tellSense); k.Len != 18 || k.Data[2] != 7 || k.Data[12] != 0x27 {
		t.Error(k)
	}
}

// added is the attentions and one more, as layer 4 adds it.
func added(l []api.Sense, s api.Sense) []api.Sense {
	switch {
	case slices.Contains(l, s):
		return l
	case s == powerOn:
		return []api.Sense{s}
	case len(l) >= 4:
		return l
	}
	return append(slices.Clone(l), s)
}

// P12.1: Attend of one unit, and, lun -1, of all: where none wait, one, several, and as many as may; where it waits already; of PowerOn, which drives out the others.
func TestAttend(t *testing.T) {
	for _, u := range kinds() {
		for _, s := range oddSenses {
			l := among(u, 1, 4)
			l[0].Attentions, l[3].Attentions = nil, []api.Sense{newMedium}
			for lun := -1; lun < 4; lun++ {
				want := cloneUnits(l)
				for i := range want {
					if lun == i || lun == -1 {
						want[i].Attentions = added(want[i].Attentions, s)
					}
				}
				if m := unit.Attend(l, lun, s); !sameUnits(m, want) {
					t.Fatal(lun, s, short(m))
				}
			}
		}
	}
	for _, c := range []struct{ l, want []api.Sense }{{nil, []api.Sense{busReset}}, {[]api.Sense{powerOn}, []api.Sense{powerOn, busReset}}, {[]api.Sense{busReset, newMedium}, []api.Sense{busReset, newMedium}}, {[]api.Sense{powerOn, newMedium, nexusLoss, unitReset}, []api.Sense{powerOn, newMedium, nexusLoss, unitReset}}} {
		for _, lun := range []int{0, -1} {
			if m := unit.Attend([]api.Unit{told(kept, c.l...)}, lun, busReset); !sameUnit(m[0], told(kept, c.want...)) {
				t.Error(c, short(m))
			}
		}
	}
}

// P12.1: Insert: one that is fresh, of which NewMedium is told, and one that isn't; where NewMedium waits already, and where as many wait as may.
func TestInsert(t *testing.T) {
	for _, u := range kinds() {
		for lun := range 4 {
			for _, waits := range [][]api.Sense{u.Attentions, nil, {newMedium}, {newMedium, powerOn}, {powerOn, busReset, nexusLoss}, {powerOn, busReset, nexusLoss, unitReset}} {
				l := among(u, lun, 4)
				l[lun].Attentions = waits
				want := cloneUnits(l)
				if !u.Slot.Present {
					want[lun].Slot.Present = true
					want[lun].Attentions = added(waits, newMedium)
				}
				if m := unit.Insert(l, lun); !sameUnits(m, want) {
					t.Fatal(lun, waits, short(m))
				}
			}
		}
	}
	l := []api.Unit{with(false, true, true), with(false, false, false)}
	m := unit.Insert(l, 1)
	if n := unit.Insert(m, 1); !sameUnits(n, m) || !slices.Equal(m[1].Attentions, []api.Sense{newMedium}) || !m[1].Slot.Present || m[0].Slot.Present {
		t.Error(short(m), short(n))
	}
}

// P12.1: Eject: one that is in, which is flushed, one that is kept in, and one that is out; no attention comes of it.
func TestEject(t *testing.T) {
	for _, u := range kinds() {
		for lun := range 4 {
			l := among(u, lun, 4)
			want := cloneUnits(l)
			want[lun].Slot, _ = slot.Button(u.Slot)
			if m := unit.Eject(l, lun); !sameUnits(m, want) {
				t.Fatal(lun, short(m))
			}
		}
	}
	for _, c := range []struct {
		u, want api.Unit
	}{
		{with(true, false, false), api.Unit{Slot: api.Slot{Medium: flushed()}, Caching: true}},
		{with(true, true, false), api.Unit{Slot: api.Slot{Medium: flushed(), Protect: true}, Caching: true}},
		{with(true, false, true), with(true, false, true)},
		{with(true, true, true), with(true, true, true)},
		{with(false, false, false), with(false, false, false)},
		{with(false, true, true), with(false, true, true)},
	} {
		if m := unit.Eject([]api.Unit{c.u}, 0); !sameUnit(m[0], c.want) {
			t.Error(short([]api.Unit{c.u}), short(m))
		}
	}
}

// flushed is the plain unit's medium when all of it is flushed.
func flushed() api.Medium {
	return api.Medium{Blocks: []api.Block{wrote(1), lasts(1), wrote(2), lasts(3)}}
}

// P12.1: Switch: on, and off, where it was on and where it wasn't; writes that are cached are flushed if it comes on.
func TestSwitch(t *testing.T) {
	for _, u := range kinds() {
		for lun := range 4 {
			for _, on := range []bool{false, true} {
				l := among(u, lun, 4)
				want := cloneUnits(l)
				want[lun].Slot = slot.Switch(u.Slot, on)
				if m := unit.Switch(l, lun, on); !sameUnits(m, want) {
					t.Fatal(lun, on, short(m))
				}
			}
		}
	}
	clean := holding(flushed())
	cleanOn := holding(flushed())
	cleanOn.Slot.Protect = true
	for _, c := range []struct {
		u, want api.Unit
		on      bool
	}{
		{plain(), cleanOn, true}, {clean, cleanOn, true}, {cleanOn, cleanOn, true}, {with(true, true, false), with(true, true, false), true},
		{plain(), plain(), false}, {with(true, true, false), plain(), false}, {cleanOn, clean, false}, {with(false, true, false), with(false, false, false), false},
	} {
		if m := unit.Switch([]api.Unit{c.u}, 0, c.on); !sameUnit(m[0], c.want) {
			t.Error(c.on, short([]api.Unit{c.u}), short(m))
		}
	}
}

// P12.1: Power: of each mask each unit has of its cached writes those that had gone through, in order; it isn't kept in, its writes are cached, PowerOn alone waits, and Last is good; whether it is in, and protected, stays.
func TestPower(t *testing.T) {
	masks := []uint64{0, 1, 2, 3, 4, 5, 6, 7, 8, 1 << 63, 1<<63 | 1, 0xaaaaaaaaaaaaaaaa, math.MaxUint64 - 1, math.MaxUint64}
	for _, mask := range masks {
		l := kinds()
		want := cloneUnits(l)
		for i, u := range l {
			want[i] = api.Unit{Slot: slot.Power(u.Slot, mask), Caching: true, Attentions: []api.Sense{powerOn}}
		}
		was := cloneUnits(l)
		if m := unit.Power(l, mask); !sameUnits(m, want) || !sameUnits(l, was) {
			t.Fatal(mask, short(m))
		}
		for count := range 5 {
			if m := unit.Power(l[:count], mask); !sameUnits(m, want[:count]) {
				t.Error(mask, count, short(m))
			}
		}
	}
	for _, c := range []struct {
		mask     uint64
		at0, at2 api.Block // full's writes are of block 2, 0, and 2
	}{
		{0, lasts(0), lasts(2)}, {1, lasts(0), wrote(0)}, {2, wrote(1), lasts(2)}, {3, wrote(1), wrote(0)}, {4, lasts(0), wrote(2)},
		{5, lasts(0), wrote(2)}, {6, wrote(1), wrote(2)}, {7, wrote(1), wrote(2)}, {8, lasts(0), lasts(2)}, {math.MaxUint64, wrote(1), wrote(2)}, {math.MaxUint64 - 7, lasts(0), lasts(2)},
	} {
		want := api.Unit{Slot: api.Slot{Medium: medium(4), Present: true, Protect: true}, Caching: true, Attentions: []api.Sense{powerOn}}
		want.Slot.Medium.Blocks[0], want.Slot.Medium.Blocks[2] = c.at0, c.at2
		out := want
		out.Slot.Present = false
		u := full()
		u.Slot.Present = false
		if m := unit.Power([]api.Unit{full(), u, full()}, c.mask); !sameUnits(m, []api.Unit{want, out, want}) {
			t.Error(c.mask, short(m))
		}
	}
}

// call is one that takes a number of a unit, as what it makes of the units.
type call func(l []api.Unit, lun int) []api.Unit

// calls are all that take one, each of what makes most of it.
func calls() map[string]call {
	j := api.Job{Command: api.Command{Op: api.Write10, At: 0, N: 2}, Len: 128, Took: 60, Rest: make([]byte, 60)}
	modes := append(make([]byte, 4), append([]byte{8, 0x12, 4}, make([]byte, 17)...)...)
	command := func(b []byte) call {
		return func(l []api.Unit, lun int) []api.Unit {
			l, _ = unit.Command(l, lun, b)
			return l
		}
	}
	return map[string]call{
		"TestReady": command(testReady), "RequestSense": command(tellSense), "StartStop": command(putIn), "Synchronize": command(flushAll), "Write": command(writeOne), "no command": command(nil), "no op": command([]byte{0xff}),
		"Take": func(l []api.Unit, lun int) []api.Unit {
			l, _ = unit.Take(l, lun, j, make([]byte, 70))
			return l
		},
		"Finish": func(l []api.Unit, lun int) []api.Unit {
			l, _ = unit.Finish(l, lun, api.Job{Command: api.Command{Op: api.ModeSelect6, N: 24}, Len: 24, Took: 24, Rest: modes})
			return l
		},
		"Keep":   func(l []api.Unit, lun int) []api.Unit { return unit.Keep(l, lun, differs) },
		"Attend": func(l []api.Unit, lun int) []api.Unit { return unit.Attend(l, lun, powerOn) },
		"Insert": unit.Insert,
		"Eject":  unit.Eject,
		"on":     func(l []api.Unit, lun int) []api.Unit { return unit.Switch(l, lun, true) },
		"off":    func(l []api.Unit, lun int) []api.Unit { return unit.Switch(l, lun, false) },
	}
}

// P12.1: where there is no such unit the units are as they were: below 0, one behind the last, far beyond, and where there are no units at all. (Attend's -1 is for all.)
func TestAsTheyWere(t *testing.T) {
	for name, do := range calls() {
		for count := range 6 {
			l := kinds()[:count]
			for _, lun := range append(slices.Clone(farLuns), -1, count, count+1, count+4) {
				if name == "Attend" && lun == -1 {
					continue
				}
				if m := do(l, lun); !sameUnits(m, l) {
					t.Error(name, lun, count, short(m))
				}
			}
		}
	}
}

// P12.1: the other units stay as they were, of the first one, of the last one, and between; each call does something to some unit.
func TestOthersStay(t *testing.T) {
	for name, do := range calls() {
		changed := false
		for _, u := range kinds() {
			for lun := range 4 {
				l := among(u, lun, 4)
				m := do(l, lun)
				if len(m) != 4 || !sameUnits(m[:lun], l[:lun]) || !sameUnits(m[lun+1:], l[lun+1:]) {
					t.Error(name, lun, short(m))
				}
				changed = changed || !sameUnit(m[lun], l[lun])
			}
		}
		if !changed {
			t.Error(name, "does nothing")
		}
	}
}

// roomy is units whose lists are the beginnings of longer ones, that aren't 0 behind them, and all of these lists.
func roomy() (whole, l []api.Unit) {
	whole = make([]api.Unit, 5)
	for i := range whole {
		u := holding(medium(8, slices.Repeat([]int{1, 0}, 6)...))
		u.Attentions = []api.Sense{newMedium, busReset, unitReset, nexusLoss, kept}
		u.Slot.Present, u.Slot.Latch, u.Caching, u.Last = i != 1, i == 2, i != 0, kept
		whole[i] = u
	}
	for i, u := range whole[:4] {
		u.Slot.Medium.Blocks, u.Slot.Medium.Dirty, u.Attentions = u.Slot.Medium.Blocks[:4], u.Slot.Medium.Dirty[:3], u.Attentions[:i]
		l = append(l, u)
	}
	return whole, slices.Concat(l, whole[4:])[:4]
}

// wipe writes into units, their lists, and their spare room.
func wipe(l []api.Unit) {
	for _, u := range l {
		clear(u.Slot.Medium.Blocks[:cap(u.Slot.Medium.Blocks)])
		clear(u.Slot.Medium.Dirty[:cap(u.Slot.Medium.Dirty)])
		clear(u.Attentions[:cap(u.Attentions)])
	}
	clear(l[:cap(l)])
}

// P12.1: the units that were handed in stay as they were, their spare room too, and an answer is new memory: who writes into the one changes nothing of the other, nor of what a later call answers.
func TestArgumentsStay(t *testing.T) {
	m := calls()
	m["Power"] = func(l []api.Unit, lun int) []api.Unit { return unit.Power(l, 5) }
	m["Attend all"] = func(l []api.Unit, lun int) []api.Unit { return unit.Attend(l, -1, nexusLoss) }
	for name, do := range m {
		for lun := -2; lun < 6; lun++ {
			whole, l := roomy()
			was, behind := cloneUnits(whole), cloneUnit(l[:5][4])
			same := func() bool {
				_, w := roomy()
				return sameUnits(whole, was) && sameUnits(l, w) && sameUnit(l[:5][4], behind)
			}
			after := do(l, lun)
			if !same() {
				t.Fatal(name, lun, "changed")
			}
			keep := cloneUnits(after)
			wipe(after)
			if !same() {
				t.Fatal(name, lun, "shared")
			}
			if again := do(l, lun); !sameUnits(again, keep) {
				t.Fatal(name, lun, "kept")
			}
			after = do(l, lun)
			wipe(l)
			if !sameUnits(after, keep) {
				t.Fatal(name, lun, "the answer shares what was handed in")
			}
		}
	}
}

// P12.1: no two units of an answer share anything, even where those that were handed in did.
func TestApart(t *testing.T) {
	m := calls()
	m["Power"] = func(l []api.Unit, lun int) []api.Unit { return unit.Power(l, 5) }
	m["Attend all"] = func(l []api.Unit, lun int) []api.Unit { return unit.Attend(l, -1, nexusLoss) }
	for name, do := range m {
		u := full()
		after := do([]api.Unit{u, u, u}, 1)
		for i := range after {
			was := cloneUnits(after)
			wipe(slices.Clone(after[i : i+1]))
			was[i] = after[i]
			if !sameUnits(after, was) {
				t.Error(name, "unit", i, "shares something with another one")
			}
		}
	}
}

// P12.1: the bytes, and the job, that were handed in stay as they were, their spare room too; an intent, and a job, that is answered is new memory, and none of the units'.
func TestBytesStay(t *testing.T) {
	for _, lun := range []int{0, 1, 2, -1} {
		l := []api.Unit{plain(), plain()}
		for _, b := range [][]byte{ask, luns, tellSense, readTwo, writeOne} {
			room := append(slices.Clone(b), 1, 2, 3)
			m, k := unit.Command(l, lun, room[:len(b)])
			was, data := cloneUnits(m), slices.Clone(k.Data)
			if !bytes.Equal(room, append(slices.Clone(b), 1, 2, 3)) {
				t.Error(lun, "changed", room)
			}
			clear(room)
			if !bytes.Equal(k.Data, data) {
				t.Error(lun, "shared", room)
			}
			clear(k.Data[:cap(k.Data)])
			if !sameUnits(m, was) || !sameUnits(l, []api.Unit{plain(), plain()}) {
				t.Error(lun, "an intent's data are the units'")
			}
		}
		rest, b := slices.Repeat([]byte{5}, 70), slices.Repeat([]byte{6}, 70)
		j := api.Job{Command: api.Command{Op: api.Write10, N: 2}, Len: 128, Took: 3, Rest: rest[:3]}
		m, k := unit.Take(l, lun, j, b[:20])
		want := slices.Concat(rest[:3], b[:k.Took-3])
		clear(k.Rest[:cap(k.Rest)])
		if !bytes.Equal(rest, slices.Repeat([]byte{5}, 70)) || !bytes.Equal(b, slices.Repeat([]byte{6}, 70)) {
			t.Error(lun, "the job's rest, or the bytes, were changed, or are shared")
		}
		_, k = unit.Take(l, lun, j, b[:20])
		_, why := unit.Finish(m, lun, j)
		clear(rest)
		clear(b)
		if !bytes.Equal(k.Rest, want) || (why != length && why != noUnit) {
			t.Error(lun, "the answer shares the job's rest, or the bytes", k, why)
		}
	}
}

// P12.1, P12.2: one call behind the other, of any numbers and bytes: each command is held against wanted, and an attention that came is told once, if it isn't driven out, or there is no room.
func TestAny(t *testing.T) {
	list := commands()
	seen := map[api.Sense]int{}
	for seed := range uint64(200) {
		r := rand.New(rand.NewPCG(seed, 13))
		l, _ := unit.Make(1+r.IntN(4), 1+r.IntN(6))
		var do []call
		for _, name := range []string{"Take", "Finish", "Keep", "Insert", "Eject", "on", "off"} {
			do = append(do, calls()[name])
		}
		for range 120 {
			lun := r.IntN(len(l)+2) - 1
			switch r.IntN(12) {
			case 0:
				l = do[r.IntN(len(do))](l, lun)
			case 1:
				l = unit.Attend(l, lun, []api.Sense{busReset, unitReset, nexusLoss, newMedium, powerOn}[r.IntN(5)])
			case 2:
				if r.IntN(6) == 0 {
					l = unit.Power(l, r.Uint64())
				}
			default:
				m, k := check(t, l, lun, list[r.IntN(len(list))])
				m, l = l, unit.Keep(m, lun, k.Sense)
				seen[k.Sense]++
			}
		}
	}
	for _, why := range []api.Sense{good, notReady, protected, kept, outside, field, unknown, noUnit, powerOn, busReset, unitReset, nexusLoss, newMedium} {
		if seen[why] == 0 {
			t.Error(why, "was never told")
		}
	}
}
