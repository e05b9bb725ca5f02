package job_test

import (
	"bytes"
	"math"
	"math/big"
	"math/rand/v2"
	"slices"
	"testing"

	"reticule/api"
	"reticule/job"
	"reticule/mode"
)

const size = 64 // bytes of a block, told apart from api's name on purpose

// The senses that a job tells, written out.
var (
	good      = api.Sense{}
	notReady  = api.Sense{Key: 0x2, Code: 0x3a}
	protected = api.Sense{Key: 0x7, Code: 0x27}
	outside   = api.Sense{Key: 0x5, Code: 0x21}
	parameter = api.Sense{Key: 0x5, Code: 0x26}
	length    = api.Sense{Key: 0x5, Code: 0x1a}
	differs   = api.Sense{Key: 0xe, Code: 0x1d}
)

// The ops that have a job, by what is done with the bytes.
var (
	writes   = []int{0x0a, 0x2a, 0xaa, 0x8a}
	verifies = []int{0x2f, 0xaf, 0x8f}
	selects  = []int{0x15, 0x55}
)

// extremes are whole numbers that wrap round when something is added to them, or multiplied, or that fit when they are cut.
var extremes = []int{math.MinInt, math.MinInt + 1, math.MinInt + 64, -1 << 58, math.MinInt32, math.MaxInt32, 1<<33 + 1, 1 << 58, 1<<58 + 1, 1 << 60, math.MaxInt - 1, math.MaxInt}

// lasts is what block i of the tests' media lasts as: no two are the same, and none is the data of a write.
func lasts(i int) (b api.Block) {
	for j := range b {
		b[j] = byte(j)
	}
	b[0], b[63] = byte(i), 1
	return b
}

// wrote is the data of the cached write i of the tests' media.
func wrote(i int) (b api.Block) {
	for j := range b {
		b[j] = byte(100 + j)
	}
	b[0], b[63] = byte(i), 2
	return b
}

// medium is so many blocks, and cached writes of these, one behind the other.
func medium(blocks int, ats ...int) api.Medium {
	m := api.Medium{Blocks: make([]api.Block, blocks)}
	for i := range m.Blocks {
		m.Blocks[i] = lasts(i)
	}
	for i, at := range ats {
		m.Dirty = append(m.Dirty, api.Dirty{At: at, Data: wrote(i)})
	}
	return m
}

// unit is one with that medium, present, whose writes are cached, with attentions and a sense that no job may change.
func unit(m api.Medium) api.Unit {
	return api.Unit{
		Slot:       api.Slot{Medium: m, Present: true},
		Caching:    true,
		Attentions: []api.Sense{{Key: 6, Code: 0x29}, {Key: 6, Code: 0x28}},
		Last:       api.Sense{Key: 5, Code: 0x20, Qual: 3},
	}
}

// some is n bytes that differ from place to place, and from seed to seed.
func some(n, seed int) []byte {
	b := make([]byte, n)
	for i := range b {
		b[i] = byte(i*7 + i/size*31 + seed*101 + 1)
	}
	return b
}

// blockOf is block i of bytes.
func blockOf(b []byte, i int) (one api.Block) {
	copy(one[:], b[i*size:(i+1)*size])
	return one
}

// flat is the bytes of blocks, one behind the other.
func flat(l []api.Block) []byte {
	var b []byte
	for i := range l {
		b = append(b, l[i][:]...)
	}
	return b
}

// cloneUnit is the same unit in memory of its own.
func cloneUnit(u api.Unit) api.Unit {
	u.Slot.Medium = api.Medium{Blocks: slices.Clone(u.Slot.Medium.Blocks), Dirty: slices.Clone(u.Slot.Medium.Dirty)}
	u.Attentions = slices.Clone(u.Attentions)
	return u
}

// cloneJob is the same job in memory of its own.
func cloneJob(j api.Job) api.Job {
	j.Rest = slices.Clone(j.Rest)
	return j
}

// sameUnit: are they the same, as a whole?
func sameUnit(a, b api.Unit) bool {
	return slices.Equal(a.Slot.Medium.Blocks, b.Slot.Medium.Blocks) && slices.Equal(a.Slot.Medium.Dirty, b.Slot.Medium.Dirty) &&
		a.Slot.Present == b.Slot.Present && a.Slot.Protect == b.Slot.Protect && a.Slot.Latch == b.Slot.Latch &&
		a.Caching == b.Caching && slices.Equal(a.Attentions, b.Attentions) && a.Last == b.Last
}

// sameJob: are they the same, as a whole?
func sameJob(a, b api.Job) bool {
	return a.Command == b.Command && a.Len == b.Len && a.Took == b.Took && bytes.Equal(a.Rest, b.Rest) && a.Bad == b.Bad
}

// short tells a unit in a few words.
func short(u api.Unit) []any {
	s := u.Slot
	return []any{len(s.Medium.Blocks), "blocks,", len(s.Medium.Dirty), "writes, present", s.Present, "protect", s.Protect, "latch", s.Latch, "caching", u.Caching, u.Attentions, u.Last}
}

// piece is how many bytes each of N stands for, 0 of a command that has no job, said without layer 6.
func piece(c api.Command) int {
	switch {
	case slices.Contains(selects, c.Op):
		return 1
	case slices.Contains(writes, c.Op), slices.Contains(verifies, c.Op) && c.Bits == 1:
		return size
	}
	return 0
}

// started is what Start must answer.
func started(c api.Command) (api.Job, bool) {
	if piece(c) == 0 || c.N < 1 || c.N > 4294967296 {
		return api.Job{}, false
	}
	return api.Job{Command: c, Len: piece(c) * c.N}, true
}

// mayBe: may the job be?
func mayBe(j api.Job) bool {
	fresh, ok := started(j.Command)
	left := j.Took
	if piece(j.Command) == size {
		left = j.Took & 63
	}
	return ok && fresh.Len == j.Len && j.Took >= 0 && j.Took <= j.Len && len(j.Rest) == left
}

// rightMedium: may it be? Said without layer 3.
func rightMedium(m api.Medium) bool {
	behind := func(d api.Dirty) bool { return d.At < 0 || d.At >= len(m.Blocks) }
	return len(m.Blocks) <= 64 && len(m.Dirty) <= 64 && !slices.ContainsFunc(m.Dirty, behind)
}

// shows is what each block shows, none of a medium that may not be. Said without layer 3.
func shows(m api.Medium) []api.Block {
	if !rightMedium(m) {
		return nil
	}
	l := slices.Clone(m.Blocks)
	for _, d := range m.Dirty {
		l[d.At] = d.Data
	}
	return l
}

// placed is which block of the unit block i is, by numbers of any length, and whether there is such a block.
func placed(m api.Medium, at uint64, i int) (int, bool) {
	sum := new(big.Int).SetUint64(at)
	sum.Add(sum, big.NewInt(int64(i)))
	if sum.Cmp(big.NewInt(int64(len(shows(m))))) >= 0 {
		return 0, false
	}
	return int(sum.Int64()), true
}

// write is the medium with that block written. Said without layers 3 and 5.
func write(m api.Medium, at int, data api.Block, cached bool) api.Medium {
	if !cached {
		m.Blocks[at] = data
		m.Dirty = slices.DeleteFunc(m.Dirty, func(d api.Dirty) bool { return d.At == at })
		return m
	}
	if len(m.Dirty) == 64 {
		m = api.Medium{Blocks: shows(m)}
	}
	m.Dirty = append(m.Dirty, api.Dirty{At: at, Data: data})
	return m
}

// worked is the unit behind a whole block i of a job, and the job's Bad. It may write into the unit.
func worked(u api.Unit, c api.Command, bad api.Sense, i int, data api.Block) (api.Unit, api.Sense) {
	if bad != good {
		return u, bad
	}
	writing := slices.Contains(writes, c.Op)
	at, there := placed(u.Slot.Medium, c.At, i)
	switch {
	case !u.Slot.Present:
		return u, notReady
	case writing && u.Slot.Protect:
		return u, protected
	case !there:
		return u, outside
	case writing:
		u.Slot.Medium = write(u.Slot.Medium, at, data, c.Bits != 1 && u.Caching)
	case shows(u.Slot.Medium)[at] != data:
		return u, differs
	}
	return u, good
}

// taken is what Take must answer, worked out from all bytes at once.
func taken(u api.Unit, j api.Job, b []byte) (api.Unit, api.Job) {
	u, j = cloneUnit(u), cloneJob(j)
	if !mayBe(j) {
		return u, j
	}
	first := (j.Took - len(j.Rest)) / size
	b = b[:min(len(b), j.Len-j.Took)]
	j.Took += len(b)
	j.Rest = append(j.Rest, b...)
	if piece(j.Command) == 1 {
		return u, j
	}
	for i := range len(j.Rest) / size {
		u, j.Bad = worked(u, j.Command, j.Bad, first+i, blockOf(j.Rest, i))
	}
	j.Rest = j.Rest[len(j.Rest)/size*size:]
	return u, j
}

// finished is what Finish must answer.
func finished(u api.Unit, j api.Job) (api.Unit, api.Sense) {
	u = cloneUnit(u)
	switch {
	case !mayBe(j):
		return u, length
	case j.Bad != good:
		return u, j.Bad
	case j.Took != j.Len:
		return u, length
	case piece(j.Command) == size:
		return u, good
	}
	caching, why := mode.Select(j.Rest, j.Command.Op == 0x55, u.Caching)
	if why == good {
		u.Caching = caching
	}
	return u, why
}

// checkTake holds Take against taken, and answers what it answers.
func checkTake(t *testing.T, u api.Unit, j api.Job, b []byte) (api.Unit, api.Job) {
	t.Helper()
	wantUnit, wantJob := taken(u, j, b)
	v, k := job.Take(u, j, b)
	if !sameUnit(v, wantUnit) || !sameJob(k, wantJob) {
		t.Fatal(len(b), "bytes of", j, short(u), "\ngot", k, short(v), "\nwant", wantJob, short(wantUnit))
	}
	return v, k
}

// checkFinish holds Finish against finished, and answers what it answers.
func checkFinish(t *testing.T, u api.Unit, j api.Job) (api.Unit, api.Sense) {
	t.Helper()
	wantUnit, want := finished(u, j)
	v, why := job.Finish(u, j)
	if !sameUnit(v, wantUnit) || why != want {
		t.Fatal(j, short(u), "\ngot", why, short(v), "\nwant", want, short(wantUnit))
	}
	return v, why
}

// begin is the job of a command that has one.
func begin(t *testing.T, c api.Command) api.Job {
	t.Helper()
	j, ok := job.Start(c)
	if !ok {
		t.Fatal("no job", c)
	}
	return j
}

// counts are the Ns around the edges that the chapter names.
func counts() []int {
	return append([]int{-2, -1, 0, 1, 2, 3, 24, 63, 64, 65, 255, 256, 65535, math.MaxUint32, 1<<32 - 1, 1 << 32, 1<<32 + 1, 1<<32 + 2}, extremes...)
}

// P10.1: Start of every op, those too that are none, of all Ns and Bits around the edges; where the command begins, and its page, say nothing.
func TestStart(t *testing.T) {
	ops := []int{math.MinInt, -0xf6, -1, 1<<8 + 0x2a, 1<<32 + 0x2a, math.MaxInt}
	for op := range 256 {
		ops = append(ops, op)
	}
	for _, op := range ops {
		for _, n := range counts() {
			for _, bits := range []int{math.MinInt, -1, 0, 1, 2, 3, 4, 257, 1<<32 + 1, math.MaxInt} {
				for _, at := range []uint64{0, 5, math.MaxUint64} {
					c := api.Command{Op: op, At: at, N: n, Page: bits, Bits: bits}
					want, has := started(c)
					if j, ok := job.Start(c); ok != has || !sameJob(j, want) {
						t.Fatal(c, j, ok)
					}
				}
			}
		}
	}
}

// P10.1: Start, written out: each command that has a job, with its Len, and those that have none.
func TestStartEdges(t *testing.T) {
	for _, c := range []struct {
		op, n, bits int
		want        int // its Len; 0: none
	}{
		{api.Write6, 1, 0, 64}, {api.Write10, 1, 0, 64}, {api.Write12, 1, 0, 64}, {api.Write16, 1, 0, 64},
		{api.Write6, 256, 0, 16384}, {api.Write10, 65535, 1, 4194240}, {api.Write12, 3, 2, 192}, {api.Write16, 3, -1, 192},
		{api.Verify10, 1, 1, 64}, {api.Verify12, 2, 1, 128}, {api.Verify16, 3, 1, 192},
		{api.Verify10, 1, 0, 0}, {api.Verify12, 2, 0, 0}, {api.Verify16, 3, 0, 0}, {api.Verify10, 1, 2, 0}, {api.Verify12, 1, 3, 0}, {api.Verify16, 1, -1, 0},
		{api.ModeSelect6, 1, 0, 1}, {api.ModeSelect6, 24, 0, 24}, {api.ModeSelect10, 28, 1, 28}, {api.ModeSelect10, 65, 7, 65},
		{api.Write16, 1 << 32, 0, 1 << 38}, {api.Verify16, 1 << 32, 1, 1 << 38}, {api.ModeSelect10, 1 << 32, 0, 1 << 32},
		{api.Write16, 1<<32 + 1, 0, 0}, {api.Verify16, 1<<32 + 1, 1, 0}, {api.ModeSelect6, 1<<32 + 1, 0, 0}, {api.ModeSelect10, math.MaxInt, 0, 0},
		{api.Write16, math.MaxInt, 0, 0}, {api.Write16, 1 << 58, 0, 0}, {api.Write16, 1<<58 + 1, 0, 0},
		{api.Write10, 0, 0, 0}, {api.Verify10, 0, 1, 0}, {api.ModeSelect6, 0, 0, 0}, {api.ModeSelect10, 0, 0, 0},
		{api.Write10, -1, 0, 0}, {api.Verify10, -1, 1, 0}, {api.ModeSelect6, -1, 0, 0}, {api.Write16, math.MinInt, 0, 0}, {api.Write16, math.MinInt + 1, 0, 0},
		{api.Read6, 1, 1, 0}, {api.Read10, 1, 1, 0}, {api.Read12, 1, 1, 0}, {api.Read16, 1, 1, 0}, {api.Synchronize10, 1, 1, 0}, {api.Synchronize16, 1, 1, 0},
		{api.TestReady, 1, 1, 0}, {api.RequestSense, 18, 1, 0}, {api.Inquiry, 36, 1, 0}, {api.ModeSense6, 4, 1, 0}, {api.ModeSense10, 8, 1, 0}, {api.StartStop, 1, 1, 0},
		{api.Prevent, 1, 1, 0}, {api.Capacity10, 8, 1, 0}, {api.Capacity16, 32, 1, 0}, {api.ReportLuns, 16, 1, 0}, {0xff, 1, 1, 0}, {0x2b, 1, 1, 0}, {-1, 1, 1, 0},
	} {
		command := api.Command{Op: c.op, At: 7, N: c.n, Page: 9, Bits: c.bits}
		var want api.Job
		if c.want != 0 {
			want = api.Job{Command: command, Len: c.want}
		}
		if j, ok := job.Start(command); ok != (c.want != 0) || !sameJob(j, want) {
			t.Errorf("%x: %v, %v", c.op, j, ok)
		}
	}
}

// jobs are commands that have a job, one of each kind and each width.
func jobs() []api.Command {
	var l []api.Command
	for _, n := range []int{1, 2, 3, 65, 130} {
		for _, op := range slices.Concat(writes, verifies, selects) {
			l = append(l, api.Command{Op: op, At: 1, N: n, Bits: 1})
		}
		l = append(l, api.Command{Op: 0x2a, N: n}, api.Command{Op: 0x8a, N: n, Bits: 3}, api.Command{Op: 0x55, N: n})
	}
	return l
}

// P10.1: Right, of all Len, Took and Rest around what they must be; the bytes of Rest, and Bad, may be any. What may not be takes nothing, and ends with Length.
func TestRight(t *testing.T) {
	u := unit(medium(4, 1, 2))
	b := some(3*size, 1)
	commands := append(jobs(), api.Command{Op: 0x28, N: 1}, api.Command{Op: 0x2f, N: 1}, api.Command{Op: 0x2a}, api.Command{Op: 0x2a, N: -1}, api.Command{Op: 0x8a, N: 1<<32 + 1}, api.Command{}, api.Command{Op: 0xff, N: 1})
	for _, c := range commands {
		all := max(piece(c), 1) * c.N
		for _, lens := range []int{all, all + 1, all - 1, 0, c.N, all + 64, all + 1<<32, math.MinInt, math.MaxInt} {
			for _, took := range []int{0, 1, 2, 3, 63, 64, 65, 127, 128, all - 1, all, all + 1, all + 64, -1, -63, -64, -65, math.MinInt, math.MaxInt} {
				for _, rest := range []int{0, 1, 2, 3, took & 63, took&63 - 1, took&63 + 1, 62, 63, 64, 65, 127, 128} {
					j := api.Job{Command: c, Len: lens, Took: took, Rest: some(max(rest, 0), rest)}
					if took&1 == 1 {
						j.Bad = outside
					}
					if job.Right(j) != mayBe(j) {
						t.Fatal(j, job.Right(j))
					}
					checkTake(t, u, j, b)
					checkFinish(t, u, j)
				}
			}
		}
	}
}

// P10.1: Right, the cases that the chapter names, written out.
func TestRightEdges(t *testing.T) {
	block, page := api.Command{Op: api.Write10, N: 2}, api.Command{Op: api.ModeSelect6, N: 70}
	for _, c := range []struct {
		name       string
		command    api.Command
		lens, took int
		rest       int
		want       bool
	}{
		{"nothing came", block, 128, 0, 0, true},
		{"one byte", block, 128, 1, 1, true},
		{"63", block, 128, 63, 63, true},
		{"a block", block, 128, 64, 0, true},
		{"a block that is still there", block, 128, 64, 64, false},
		{"a block and a byte", block, 128, 65, 1, true},
		{"all", block, 128, 128, 0, true},
		{"all, and 64 are still there", block, 128, 128, 64, false},
		{"more than all", block, 128, 129, 1, false},
		{"a block more than all", block, 128, 192, 0, false},
		{"below 0", block, 128, -1, 63, false},
		{"below 0, by a block", block, 128, -64, 0, false},
		{"the least", block, 128, math.MinInt, 0, false},
		{"a byte too few", block, 128, 70, 5, false},
		{"a byte too many", block, 128, 70, 7, false},
		{"a byte where none is", block, 128, 64, 1, false},
		{"none where one is", block, 128, 1, 0, false},
		{"another Len", block, 64, 0, 0, false},
		{"a Len of one more", block, 129, 0, 0, false},
		{"no Len", block, 0, 0, 0, false},
		{"parameters, none", page, 70, 0, 0, true},
		{"parameters, 64", page, 70, 64, 64, true},
		{"parameters, 64, as of a block", page, 70, 64, 0, false},
		{"parameters, all", page, 70, 70, 70, true},
		{"parameters, a byte too few", page, 70, 70, 69, false},
		{"parameters, a byte too many", page, 70, 69, 70, false},
		{"parameters, as of a block", page, 70, 70, 6, false},
		{"parameters, more than all", page, 70, 71, 71, false},
		{"parameters, of blocks", page, 70 * 64, 0, 0, false},
		{"a verify that brings nothing", api.Command{Op: api.Verify10, N: 2}, 128, 0, 0, false},
		{"a read", api.Command{Op: api.Read10, N: 2}, 128, 0, 0, false},
		{"no blocks", api.Command{Op: api.Write10}, 0, 0, 0, false},
		{"as many as may be", api.Command{Op: api.Write16, N: 1 << 32}, 1 << 38, 1<<38 - 1, 63, true},
		{"as many as may be, all", api.Command{Op: api.Write16, N: 1 << 32}, 1 << 38, 1 << 38, 0, true},
		{"one more", api.Command{Op: api.Write16, N: 1<<32 + 1}, 1<<38 + 64, 0, 0, false},
	} {
		for _, bad := range []api.Sense{good, outside, {Qual: -1}} {
			j := api.Job{Command: c.command, Len: c.lens, Took: c.took, Rest: some(c.rest, 2), Bad: bad}
			if job.Right(j) != c.want {
				t.Error(c.name, job.Right(j))
			}
			if !c.want {
				checkIdle(t, c.name, j)
			}
		}
	}
	if job.Right(api.Job{}) {
		t.Error("a zero one")
	}
}

// checkIdle: a job that may not be takes nothing, and ends with Length.
func checkIdle(t *testing.T, name string, j api.Job) {
	t.Helper()
	u := unit(medium(4))
	if v, k := job.Take(u, j, some(200, 3)); !sameUnit(v, u) || !sameJob(k, j) {
		t.Error(name, "takes something", k)
	}
	if v, why := job.Finish(u, j); !sameUnit(v, u) || why != length {
		t.Error(name, "ends with", why)
	}
}

// P10.1: no bytes, one, 63, 64, 65, just Len, and more: how many are taken, what is left, and which blocks are written, written out.
func TestTakeLengths(t *testing.T) {
	for _, c := range []struct{ n, took, rest, blocks int }{
		{0, 0, 0, 0}, {1, 1, 1, 0}, {63, 63, 63, 0}, {64, 64, 0, 1}, {65, 65, 1, 1}, {100, 100, 36, 1}, {127, 127, 63, 1}, {128, 128, 0, 2},
		{191, 191, 63, 2}, {192, 192, 0, 3}, {193, 192, 0, 3}, {256, 192, 0, 3}, {1000, 192, 0, 3},
	} {
		b := some(c.n, 4)
		for _, op := range writes {
			u := unit(medium(5))
			v, k := job.Take(u, begin(t, api.Command{Op: op, At: 1, N: 3}), b)
			if k.Took != c.took || len(v.Slot.Medium.Dirty) != c.blocks || !bytes.Equal(k.Rest, b[c.blocks*size:c.blocks*size+c.rest]) || k.Bad != good || k.Len != 192 {
				t.Errorf("%x, %d bytes: %v, %d blocks", op, c.n, k, len(v.Slot.Medium.Dirty))
			}
			for i, d := range v.Slot.Medium.Dirty {
				if d != (api.Dirty{At: 1 + i, Data: blockOf(b, i)}) {
					t.Errorf("%x, %d bytes: block %d is %v", op, c.n, i, d)
				}
			}
			if !slices.Equal(v.Slot.Medium.Blocks, u.Slot.Medium.Blocks) {
				t.Errorf("%x, %d bytes: it went through", op, c.n)
			}
		}
		for _, op := range selects {
			v, k := job.Take(unit(medium(5)), begin(t, api.Command{Op: op, N: 192}), b)
			if k.Took != c.took || !bytes.Equal(k.Rest, b[:c.took]) || k.Bad != good || !sameUnit(v, unit(medium(5))) {
				t.Errorf("%x, %d bytes: %v", op, c.n, k)
			}
		}
	}
}

// P10.1: writes that are cached, and that go through: by the command's Bits, 1 alone, or since the unit's writes aren't cached.
func TestThrough(t *testing.T) {
	b := some(size, 5)
	for _, op := range writes {
		for _, bits := range []int{math.MinInt, -1, 0, 1, 2, 3, 5, math.MaxInt} {
			for _, caching := range []bool{false, true} {
				u := unit(medium(4, 3, 2, 3))
				u.Caching = caching
				want := medium(4, 3, 2, 3)
				if bits != 1 && caching {
					want.Dirty = append(want.Dirty, api.Dirty{At: 3, Data: blockOf(b, 0)})
				} else {
					want.Blocks[3], want.Dirty = blockOf(b, 0), []api.Dirty{{At: 2, Data: wrote(1)}}
				}
				v, k := job.Take(u, begin(t, api.Command{Op: op, At: 3, N: 1, Bits: bits}), b)
				u.Slot.Medium = want
				if !sameUnit(v, u) || k.Bad != good {
					t.Error(op, bits, caching, k, short(v))
				}
			}
		}
	}
}

// P10.1: where 64 writes are cached already all is flushed first; within one job, too.
func TestCacheFull(t *testing.T) {
	u := unit(medium(2, slices.Repeat([]int{0, 1}, 31)...))
	b := some(4*size, 6)
	c := api.Command{Op: api.Write10, N: 2}
	v, _ := job.Take(u, begin(t, c), b[:2*size])
	if len(v.Slot.Medium.Dirty) != 64 || v.Slot.Medium.Blocks[1] != lasts(1) {
		t.Error("64 writes are cached", short(v))
	}
	v, k := job.Take(v, begin(t, c), b[2*size:])
	if len(v.Slot.Medium.Dirty) != 2 || v.Slot.Medium.Blocks[0] != blockOf(b, 0) || v.Slot.Medium.Blocks[1] != blockOf(b, 1) || k.Bad != good {
		t.Error("all must be flushed first", k, short(v))
	}
}

// bads are slots that one may not write, with the senses of a write and of a verify of a block that is there.
func bads() map[string]struct {
	slot          api.Slot
	write, verify api.Sense
} {
	m := medium(4, 2)
	return map[string]struct {
		slot          api.Slot
		write, verify api.Sense
	}{
		"it is protected":                       {api.Slot{Medium: m, Present: true, Protect: true}, protected, good},
		"it isn't ready":                        {api.Slot{Medium: m}, notReady, notReady},
		"it isn't ready, and is protected":      {api.Slot{Medium: m, Protect: true, Latch: true}, notReady, notReady},
		"it has no medium":                      {api.Slot{}, notReady, notReady},
		"it has no blocks":                      {api.Slot{Present: true}, outside, outside},
		"it has no blocks, and is protected":    {api.Slot{Present: true, Protect: true}, protected, outside},
		"its medium may not be":                 {api.Slot{Medium: medium(4, 4), Present: true}, outside, outside},
		"its medium may not be, it's protected": {api.Slot{Medium: medium(65), Present: true, Protect: true}, protected, outside},
		"it is kept in":                         {api.Slot{Medium: m, Present: true, Latch: true}, good, good},
	}
}

// P10.1: a unit that is protected, that isn't ready, that has no medium, and one whose medium may not be; the bytes are taken all the same.
func TestUnitBad(t *testing.T) {
	shown := flat(shows(medium(4, 2)))
	for name, c := range bads() {
		u := unit(c.slot.Medium)
		u.Slot = c.slot
		for _, op := range slices.Concat(writes, verifies) {
			want := c.write
			if slices.Contains(verifies, op) {
				want = c.verify
			}
			v, k := checkTake(t, u, begin(t, api.Command{Op: op, At: 1, N: 2, Bits: 1}), shown[size:3*size])
			if k.Bad != want || k.Took != 128 || len(k.Rest) != 0 || want != good && !sameUnit(v, u) {
				t.Errorf("%s, %x: %v", name, op, k)
			}
			if _, why := checkFinish(t, v, k); why != want {
				t.Errorf("%s, %x: ends with %v", name, op, why)
			}
		}
		for _, op := range selects {
			v, k := checkTake(t, u, begin(t, api.Command{Op: op, N: 2}), shown)
			if k.Bad != good || !sameUnit(v, u) || len(k.Rest) != 2 {
				t.Errorf("%s, %x: %v", name, op, k)
			}
		}
	}
}

// P10.1: a Bad that isn't good: blocks come and go, and nothing is done with them; parameters are kept.
func TestBadStays(t *testing.T) {
	u := unit(medium(4, 2))
	b := some(200, 7)
	for _, bad := range []api.Sense{outside, differs, {Key: 1}, {Code: 1}, {Qual: 1}, {Qual: -1}, {Key: math.MinInt}, {Key: 256}} {
		for _, c := range jobs() {
			j := begin(t, c)
			j.Bad = bad
			v, k := checkTake(t, u, j, b)
			if k.Bad != bad || !sameUnit(v, u) || k.Took != min(200, k.Len) {
				t.Error(bad, c, k)
			}
			if _, why := checkFinish(t, v, k); why != bad {
				t.Error(bad, c, "ends with", why)
			}
			if _, why := checkFinish(t, v, j); why != bad {
				t.Error(bad, c, "that is short ends with", why)
			}
		}
	}
}

// P10.1: At at the last block, behind it, and so great that At and i wrap round: there is no such block, though the sum, cut to 64 bits, is that of one.
func TestFar(t *testing.T) {
	m := medium(4, 1)
	shown := flat(shows(m))
	for _, c := range []struct {
		at      uint64
		took    int // bytes that came ahead
		n, done int // blocks in all, and those of the two that come now that are done
		why     api.Sense
		first   int // of those that come now, where it lies
		name    string
	}{
		{0, 0, 2, 2, good, 0, "at the beginning"},
		{2, 0, 2, 2, good, 2, "to the end"},
		{3, 0, 2, 1, outside, 3, "one is behind the last one"},
		{4, 0, 2, 0, outside, 0, "behind the last one"},
		{0, 3 * size, 5, 1, outside, 3, "behind the last one by i"},
		{1 << 32, 0, 2, 0, outside, 0, "its lower half fits"},
		{1 << 63, 0, 2, 0, outside, 0, "below 0 as an int"},
		{math.MaxInt64, 0, 2, 0, outside, 0, "the greatest int"},
		{math.MaxInt64, size, 3, 0, outside, 0, "the sum is below 0 as an int"},
		{math.MaxUint64, 0, 2, 0, outside, 0, "the greatest"},
		{math.MaxUint64 - 1, 0, 2, 0, outside, 0, "the one before it"},
		{math.MaxUint64, size, 3, 0, outside, 0, "the sum wraps round to 0"},
		{math.MaxUint64 - 3, 5 * size, 7, 0, outside, 0, "the sum wraps round to 1"},
		{math.MaxUint64 - 1<<20, (1<<20 + 3) * size, 1<<20 + 5, 0, outside, 0, "it wraps round to 2, far behind"},
		{math.MaxUint64 - 1, size, 3, 0, outside, 0, "the greatest, and then it wraps round"},
	} {
		for _, op := range slices.Concat(writes, verifies) {
			u := unit(m)
			j := begin(t, api.Command{Op: op, At: c.at, N: c.n, Bits: 1})
			j.Took = c.took
			b := slices.Concat(shown, shown)[c.first*size:][:2*size]
			if slices.Contains(writes, op) {
				b = some(2*size, 8)
			}
			v, k := checkTake(t, u, j, b)
			want := shows(m)
			for i := range c.done {
				want[c.first+i] = blockOf(b, i)
			}
			if k.Bad != c.why || !slices.Equal(shows(v.Slot.Medium), want) {
				t.Errorf("%s: %x: %v", c.name, op, k)
			}
		}
	}
}

// P10.1: a Verify tells what differs, wherever it does, holds against what a block shows and not against what lasts, and changes nothing; that it is protected doesn't count.
func TestVerify(t *testing.T) {
	m := medium(4, 2, 0, 2)
	shown := flat(shows(m))
	for _, op := range verifies {
		for _, protect := range []bool{false, true} {
			u := unit(m)
			u.Slot.Protect = protect
			j := begin(t, api.Command{Op: op, At: 1, N: 3, Bits: 1})
			if v, k := checkTake(t, u, j, shown[size:]); k.Bad != good || !sameUnit(v, u) || k.Took != 192 {
				t.Error(op, k)
			}
			for i := range 192 {
				b := slices.Clone(shown[size:])
				b[i] ^= 0x80
				v, k := checkTake(t, u, j, b)
				if k.Bad != differs || !sameUnit(v, u) || k.Took != 192 {
					t.Fatal(op, i, k)
				}
				if _, why := checkFinish(t, v, k); why != differs {
					t.Fatal(op, i, why)
				}
			}
			last := blockOf(flat(m.Blocks), 2)
			if _, k := checkTake(t, u, begin(t, api.Command{Op: op, At: 2, N: 1, Bits: 1}), last[:]); k.Bad != differs {
				t.Error(op, "what lasts isn't shown", k)
			}
		}
	}
}

// P10.1: the sense of the first block that wasn't good stays, whatever comes behind it.
func TestFirstBadStays(t *testing.T) {
	u := unit(medium(4))
	b := slices.Concat(flat(u.Slot.Medium.Blocks[3:]), flat(u.Slot.Medium.Blocks))
	b[5] ^= 1
	for _, op := range verifies {
		if _, k := checkTake(t, u, begin(t, api.Command{Op: op, At: 3, N: 4, Bits: 1}), b); k.Bad != differs {
			t.Error("it differs, and then there are none", k)
		}
	}
	j := begin(t, api.Command{Op: api.Write10, N: 4})
	v, j := checkTake(t, u, j, b[:70])
	v.Slot.Protect = true
	v, j = checkTake(t, v, j, b[70:130])
	v.Slot.Present = false
	v, j = checkTake(t, v, j, b[130:200])
	v.Slot.Present, v.Slot.Protect = true, false
	v, j = checkTake(t, v, j, b[200:256])
	if j.Bad != protected || j.Took != 256 || len(v.Slot.Medium.Dirty) != 1 {
		t.Error("the switch was on", j, short(v))
	}
}

// pages are parameters of ModeSelect6, and of ModeSelect10, with page 8 whose third byte is that.
func pages(ten bool, third byte) []byte {
	head := make([]byte, 4)
	if ten {
		head = make([]byte, 8)
	}
	return slices.Concat(head, []byte{0x8, 0x12, third}, make([]byte, 17))
}

// P10.1: a ModeSelect ends with what Select says of all that came, by its own header, and the unit's Caching is that where it is good; only where all came.
func TestSelects(t *testing.T) {
	for _, c := range []struct {
		name    string
		ten     bool
		b       []byte
		was     bool
		why     api.Sense
		caching bool
	}{
		{"6, on", false, pages(false, 4), false, good, true},
		{"6, off", false, pages(false, 0), true, good, false},
		{"6, on again", false, pages(false, 4), true, good, true},
		{"10, on", true, pages(true, 4), false, good, true},
		{"10, off", true, pages(true, 0), true, good, false},
		{"6, no pages", false, make([]byte, 4), true, good, true},
		{"10, no pages", true, make([]byte, 8), false, good, false},
		{"6, parameters of 10", false, pages(true, 0), true, parameter, true},
		{"10, parameters of 6", true, pages(false, 4), false, parameter, false},
		{"6, a wrong bit", false, pages(false, 5), false, parameter, false},
		{"10, a wrong bit", true, pages(true, 1), true, parameter, true},
		{"6, a byte too few", false, pages(false, 0)[:23], true, length, true},
		{"10, a byte too few", true, pages(true, 4)[:27], false, length, false},
		{"6, one byte", false, []byte{0}, true, length, true},
		{"6, descriptors of 7 bytes", false, []byte{0, 0, 0, 7}, true, parameter, true},
	} {
		command := api.Command{Op: api.ModeSelect6, N: len(c.b), Bits: 1}
		if c.ten {
			command.Op = api.ModeSelect10
		}
		for _, present := range []bool{false, true} {
			u := unit(medium(2, 1))
			u.Caching, u.Slot.Present, u.Slot.Protect = c.was, present, present
			want := u
			want.Caching = c.caching
			v, j := checkTake(t, u, begin(t, command), c.b[:len(c.b)-1])
			if w, why := checkFinish(t, v, j); why != length || !sameUnit(w, u) {
				t.Error(c.name, "a byte is still to come:", why)
			}
			v, j = checkTake(t, v, j, append(c.b[len(c.b)-1:], 1, 2, 3))
			if !sameUnit(v, u) || !bytes.Equal(j.Rest, c.b) {
				t.Error(c.name, j, short(v))
			}
			if w, why := checkFinish(t, v, j); why != c.why || !sameUnit(w, want) {
				t.Error(c.name, why, short(w))
			}
			j.Bad = outside
			if w, why := checkFinish(t, v, j); why != outside || !sameUnit(w, u) {
				t.Error(c.name, "its Bad isn't good:", why, short(w))
			}
		}
	}
}

// P10.1: Finish of blocks, written out: Bad comes ahead of Length, and a job that may not be ahead of both.
func TestFinishEdges(t *testing.T) {
	u := unit(medium(4))
	for _, op := range slices.Concat(writes, verifies) {
		for _, c := range []struct {
			took, rest int
			bad, want  api.Sense
		}{
			{0, 0, good, length}, {1, 1, good, length}, {64, 0, good, length}, {127, 63, good, length}, {128, 0, good, good},
			{0, 0, outside, outside}, {127, 63, differs, differs}, {128, 0, protected, protected},
			{128, 64, good, length}, {128, 64, outside, length}, {129, 1, good, length}, {-64, 0, good, length}, {-64, 0, outside, length}, {192, 0, outside, length},
		} {
			j := api.Job{Command: api.Command{Op: op, At: 9, N: 2, Bits: 1}, Len: 128, Took: c.took, Rest: some(c.rest, 1), Bad: c.bad}
			if v, why := checkFinish(t, u, j); why != c.want || !sameUnit(v, u) {
				t.Errorf("%x, %v: %v", op, c, why)
			}
		}
	}
}

// P10.1: as many blocks as may be: the last bytes of 2^38 are counted, and no more; what comes of blocks that there aren't is let be.
func TestGreatest(t *testing.T) {
	u := unit(medium(4))
	for _, op := range slices.Concat(writes, verifies) {
		j := begin(t, api.Command{Op: op, N: 1 << 32, Bits: 1})
		j.Took, j.Rest = 1<<38-70, some(58, 1)
		if _, k := checkTake(t, u, j, some(500, 2)); k.Took != 1<<38 || len(k.Rest) != 0 || k.Bad != outside {
			t.Errorf("%x: %v", op, k)
		}
	}
	j := begin(t, api.Command{Op: api.Write16, N: 1 << 32})
	all := some(100*size+1, 3)
	v, k := checkTake(t, u, j, all)
	if k.Took != len(all) || k.Bad != outside || !bytes.Equal(flat(shows(v.Slot.Medium)), all[:4*size]) {
		t.Error("more blocks than there are", k)
	}
}

// P10.1: Take and Finish of any units, jobs and bytes.
func TestAny(t *testing.T) {
	tried := map[api.Sense]int{}
	for seed := range uint64(4000) {
		r := rand.New(rand.NewPCG(seed, 10))
		u := anyUnit(r)
		c := api.Command{Op: pick(r, slices.Concat(writes, verifies, selects)), At: uint64(r.IntN(5)), N: 1 + r.IntN(6), Bits: r.IntN(4)}
		if slices.Contains(verifies, c.Op) {
			c.Bits = 1
		}
		if slices.Contains(selects, c.Op) {
			c.N *= 11
		}
		j := begin(t, c)
		for range 8 {
			b := some(r.IntN(2*size), r.IntN(9))
			if at, there := placed(u.Slot.Medium, c.At, j.Took/size); there && r.IntN(4) > 0 { // what is there, so that a Verify is good
				b = flat(shows(u.Slot.Medium))[at*size+len(j.Rest)%size:]
				b = b[:r.IntN(len(b)+1)]
			}
			u, j = checkTake(t, u, j, b)
			_, why := checkFinish(t, u, j)
			tried[why]++
			u.Slot.Protect = u.Slot.Protect != (r.IntN(20) == 0)
		}
	}
	for _, why := range []api.Sense{good, notReady, protected, outside, length, differs} {
		if tried[why] == 0 {
			t.Error(why, "was never told")
		}
	}
}

// pick is one of a list.
func pick(r *rand.Rand, l []int) int { return l[r.IntN(len(l))] }

// anyUnit is a unit of some blocks, with some writes cached.
func anyUnit(r *rand.Rand) api.Unit {
	blocks := 1 + r.IntN(8)
	ats := make([]int, pick(r, []int{0, 1, 3, 62, 64}))
	for i := range ats {
		ats[i] = r.IntN(blocks)
	}
	u := unit(medium(blocks, ats...))
	u.Caching, u.Slot.Present, u.Slot.Protect = r.IntN(2) == 0, r.IntN(8) > 0, r.IntN(8) == 0
	return u
}

// inParts takes the bytes in the parts that end there, and what is left as the last part.
func inParts(u api.Unit, j api.Job, b []byte, ends ...int) (api.Unit, api.Job) {
	from := 0
	for _, end := range append(ends, len(b)) {
		u, j = job.Take(u, j, b[from:end])
		from = end
	}
	return u, j
}

// P10.2: the same bytes, in whatever parts, come to the same unit and the same job, and end alike.
func TestParts(t *testing.T) {
	for seed := range uint64(3000) {
		r := rand.New(rand.NewPCG(seed, 20))
		u := anyUnit(r)
		c := api.Command{Op: pick(r, slices.Concat(writes, verifies, selects)), At: uint64(r.IntN(6)), N: 1 + r.IntN(6), Bits: 1}
		if slices.Contains(writes, c.Op) {
			c.Bits = r.IntN(2)
		}
		j := begin(t, c)
		b := some(r.IntN(j.Len+100), r.IntN(9))
		if shown := flat(shows(u.Slot.Medium)); slices.Contains(verifies, c.Op) && int(c.At)*size < len(shown) {
			copy(b, shown[int(c.At)*size:])
		}
		var ends []int
		for range r.IntN(6) {
			ends = append(ends, r.IntN(len(b)+1))
		}
		slices.Sort(ends)
		whole, done := job.Take(u, j, b)
		parts, again := inParts(u, j, b, ends...)
		if !sameUnit(whole, parts) || !sameJob(done, again) {
			t.Fatal(c, ends, done, again)
		}
		first, why := job.Finish(whole, done)
		second, same := job.Finish(parts, again)
		if !sameUnit(first, second) || why != same {
			t.Fatal(c, ends, why, same)
		}
	}
}

// P10.2: each place at which the bytes may be parted, and byte by byte, of each command that has a job.
func TestEachPart(t *testing.T) {
	b := some(200, 9)
	for _, c := range jobs() {
		for _, m := range []api.Medium{medium(4, 1), medium(2), medium(1, slices.Repeat([]int{0}, 64)...)} {
			u, j := unit(m), begin(t, c)
			whole, done := job.Take(u, j, b)
			var each []int
			for end := range len(b) + 1 {
				each = append(each, end)
				if parts, again := inParts(u, j, b, end); !sameUnit(whole, parts) || !sameJob(done, again) {
					t.Fatal(c, end, done, again)
				}
			}
			if parts, again := inParts(u, j, b, each...); !sameUnit(whole, parts) || !sameJob(done, again) {
				t.Fatal(c, "byte by byte", done, again)
			}
		}
	}
}

// P10.2: each whole block that came lies in its place, up to the first one that may not be, and all others are as they were; in whatever parts.
func TestBlocksLie(t *testing.T) {
	for _, blocks := range []int{1, 2, 5, 64} {
		for at := range blocks + 2 {
			for _, n := range []int{1, 2, 5, 66} {
				for _, came := range []int{0, 1, 63, 64, 65, 128, 200, n*size - 1, n * size, n*size + 1} {
					for kind := range 4 {
						u := unit(medium(blocks, blocks-1, 0))
						u.Caching = kind&1 == 0
						b := some(came, at+n)
						v, k := inParts(u, begin(t, api.Command{Op: writes[n%4], At: uint64(at), N: n, Bits: kind >> 1}), b, came/3, came/2)
						want := shows(u.Slot.Medium)
						copy(want[min(at, blocks):], blocksOf(b[:min(came, n*size)]))
						if !slices.Equal(shows(v.Slot.Medium), want) || k.Took != min(came, n*size) {
							t.Fatal(blocks, at, n, came, kind, k)
						}
					}
				}
			}
		}
	}
}

// blocksOf is the whole blocks of bytes.
func blocksOf(b []byte) []api.Block {
	l := make([]api.Block, len(b)/size)
	for i := range l {
		l[i] = blockOf(b, i)
	}
	return l
}

// P10.2: the switch comes on, or the medium goes out, between two parts: blocks that were whole by then are written, and none behind, even if it may be written again.
func TestUpToTheFirst(t *testing.T) {
	b := some(5*size, 10)
	for cut := range 5*size + 1 {
		for kind, why := range []api.Sense{protected, notReady} {
			u := unit(medium(6))
			v, k := job.Take(u, begin(t, api.Command{Op: api.Write12, At: 1, N: 5}), b[:cut])
			v.Slot.Protect, v.Slot.Present = kind == 0, kind != 1
			v, k = job.Take(v, k, b[cut:min(cut+size, len(b))])
			v.Slot.Protect, v.Slot.Present = false, true
			v, k = job.Take(v, k, b[min(cut+size, len(b)):])
			lie := slices.Clone(u.Slot.Medium.Blocks)
			copy(lie[1:], blocksOf(b[:cut]))
			if cut == 5*size {
				why = good
			}
			if k.Bad != why || !slices.Equal(shows(v.Slot.Medium), lie) || k.Took != 5*size {
				t.Fatal(cut, kind, k)
			}
		}
	}
}

// The chapter's example: a Write of two blocks, of which 100 bytes came.
func TestExample(t *testing.T) {
	b := some(100, 11)
	u, j := job.Take(unit(medium(4)), begin(t, api.Command{Op: api.Write10, At: 2, N: 2}), b)
	if l := shows(u.Slot.Medium); l[2] != blockOf(b, 0) || l[3] != lasts(3) || l[1] != lasts(1) || l[0] != lasts(0) {
		t.Error("the first block is written, and no other")
	}
	if j.Took != 100 || !bytes.Equal(j.Rest, b[64:]) || j.Len != 128 || j.Bad != good {
		t.Error(j)
	}
	if v, why := job.Finish(u, j); why != length || !sameUnit(u, v) {
		t.Error(why)
	}
}

// room is lists whose beginnings are handed in, with spare room behind them that isn't 0.
type room struct {
	blocks      []api.Block
	dirty       []api.Dirty
	attentions  []api.Sense
	rest, bytes []byte
}

// newRoom is such lists, always the same ones.
func newRoom() room {
	m := medium(70, slices.Repeat([]int{0, 1}, 40)...)
	return room{m.Blocks, m.Dirty, slices.Repeat([]api.Sense{{Key: 6, Code: 0x29}, {Key: 6, Code: 0x28}}, 4), some(300, 12), some(300, 13)}
}

// same: are they as they were?
func (r room) same() bool {
	was := newRoom()
	return slices.Equal(r.blocks, was.blocks) && slices.Equal(r.dirty, was.dirty) && slices.Equal(r.attentions, was.attentions) && bytes.Equal(r.rest, was.rest) && bytes.Equal(r.bytes, was.bytes)
}

// wipe writes into a unit, and its lists' spare room.
func wipe(u api.Unit) {
	m := u.Slot.Medium
	clear(m.Blocks[:cap(m.Blocks)])
	clear(m.Dirty[:cap(m.Dirty)])
	clear(u.Attentions[:cap(u.Attentions)])
}

// P10.1: the unit, the job and the bytes that were handed in stay as they were, their spare room too, whether the job may be or not; and an answer is new memory.
func TestArgumentsStay(t *testing.T) {
	commands := append(jobs(), api.Command{Op: 0x28, N: 2}, api.Command{})
	for _, c := range commands {
		for _, took := range []int{0, 1, 63, 64, 65, c.N * max(piece(c), 1)} {
			for _, n := range []int{0, 1, 63, 64, 200} {
				for _, bad := range []api.Sense{good, outside} {
					r := newRoom()
					fresh, _ := started(c)
					left := took
					if piece(c) == size {
						left = took % size
					}
					j := api.Job{Command: c, Len: fresh.Len, Took: took, Rest: r.rest[:min(left, 250)], Bad: bad}
					u := unit(api.Medium{Blocks: r.blocks[:4], Dirty: r.dirty[:3]})
					u.Attentions = r.attentions[:2]
					wasUnit, wasJob := cloneUnit(u), cloneJob(j)
					v, k := job.Take(u, j, r.bytes[:n])
					w, _ := job.Finish(u, j)
					job.Right(j)
					if !r.same() || !sameUnit(u, wasUnit) || !sameJob(j, wasJob) {
						t.Fatal("changed", c, took, n)
					}
					wipe(v)
					wipe(w)
					clear(k.Rest[:cap(k.Rest)])
					if !r.same() || !sameUnit(u, wasUnit) || !sameJob(j, wasJob) {
						t.Fatal("shared", c, took, n)
					}
				}
			}
		}
	}
}

// P10.1: two jobs that go on from one don't know of each other.
func TestJobsApart(t *testing.T) {
	for _, c := range []api.Command{{Op: api.Write10, N: 2}, {Op: api.ModeSelect6, N: 100}} {
		u, j := job.Take(unit(medium(4)), begin(t, c), some(50, 1))
		first, one := job.Take(u, j, some(30, 2))
		wasUnit, was := cloneUnit(first), cloneJob(one)
		job.Take(u, j, some(30, 3))
		job.Take(first, one, some(30, 4))
		if !sameUnit(first, wasUnit) || !sameJob(one, was) {
			t.Error(c, one, was)
		}
	}
}
