package sense_test

import (
	"bytes"
	"math"
	"math/rand/v2"
	"slices"
	"testing"

	"reticule/api"
	"reticule/sense"
)

// named are the sixteen senses, by their numbers as the chapter writes them.
var named = []struct {
	name            string
	make            func() api.Sense
	key, code, qual int
}{
	{"NotReady", sense.NotReady, 0x2, 0x3a, 0x0},
	{"Protected", sense.Protected, 0x7, 0x27, 0x0},
	{"Kept", sense.Kept, 0x5, 0x53, 0x2},
	{"Range", sense.Range, 0x5, 0x21, 0x0},
	{"Field", sense.Field, 0x5, 0x24, 0x0},
	{"Unknown", sense.Unknown, 0x5, 0x20, 0x0},
	{"NoUnit", sense.NoUnit, 0x5, 0x25, 0x0},
	{"Parameter", sense.Parameter, 0x5, 0x26, 0x0},
	{"Length", sense.Length, 0x5, 0x1a, 0x0},
	{"Saving", sense.Saving, 0x5, 0x39, 0x0},
	{"Differs", sense.Differs, 0xe, 0x1d, 0x0},
	{"PowerOn", sense.PowerOn, 0x6, 0x29, 0x0},
	{"BusReset", sense.BusReset, 0x6, 0x29, 0x2},
	{"UnitReset", sense.UnitReset, 0x6, 0x29, 0x3},
	{"NexusLoss", sense.NexusLoss, 0x6, 0x29, 0x7},
	{"NewMedium", sense.NewMedium, 0x6, 0x28, 0x0},
}

// Attentions, told apart from the program's own on purpose.
var (
	good      = api.Sense{}
	powerOn   = api.Sense{Key: 6, Code: 0x29, Qual: 0}
	busReset  = api.Sense{Key: 6, Code: 0x29, Qual: 2}
	unitReset = api.Sense{Key: 6, Code: 0x29, Qual: 3}
	nexusLoss = api.Sense{Key: 6, Code: 0x29, Qual: 7}
	newMedium = api.Sense{Key: 6, Code: 0x28, Qual: 0}
)

// wide are whole numbers whose lowest eight bits aren't all of them, those among them at the edges.
var wide = []struct {
	x   int
	low byte
}{
	{0, 0}, {1, 1}, {0x7f, 0x7f}, {0x80, 0x80}, {254, 254}, {255, 255}, {256, 0}, {257, 1}, {258, 2}, {511, 255}, {512, 0}, {1000, 0xe8}, {0x12345, 0x45},
	{-1, 255}, {-2, 254}, {-128, 128}, {-255, 1}, {-256, 0}, {-257, 255}, {-1000, 0x18},
	{math.MaxInt32, 255}, {math.MinInt32, 0}, {1 << 32, 0}, {1<<32 + 7, 7}, {math.MaxInt, 255}, {math.MaxInt - 255, 0}, {math.MinInt, 0}, {math.MinInt + 5, 5},
}

// laid is a sense's bytes, written out one by one.
func laid(key, code, qual byte) []byte {
	return []byte{0x70, 0, key, 0, 0, 0, 0, 0x0a, 0, 0, 0, 0, code, qual, 0, 0, 0, 0}
}

// senses is n senses that differ from each other, and from all that have a name.
func senses(n int) []api.Sense {
	var l []api.Sense
	for i := range n {
		l = append(l, api.Sense{Key: 9, Code: 0x80, Qual: i})
	}
	return l
}

// P4.1: each of the sixteen senses, its bytes, and that no two are the same.
func TestNamed(t *testing.T) {
	seen := map[api.Sense]string{}
	for _, c := range named {
		s := c.make()
		if s != (api.Sense{Key: c.key, Code: c.code, Qual: c.qual}) {
			t.Errorf("%s: %x", c.name, s)
		}
		if b := sense.Bytes(s); !bytes.Equal(b, laid(byte(c.key), byte(c.code), byte(c.qual))) {
			t.Errorf("%s: %x", c.name, b)
		}
		if sense.Good(s) {
			t.Error(c.name, "is good")
		}
		if seen[s] != "" {
			t.Error(c.name, "is", seen[s])
		}
		seen[s] = c.name
		if again := c.make(); again != s {
			t.Error(c.name, "isn't the same again")
		}
	}
	if len(seen) != 16 {
		t.Error(len(seen), "senses")
	}
}

// P4.1: the chapter's example, and good's bytes.
func TestBytesExamples(t *testing.T) {
	if b := sense.Bytes(sense.Protected()); !bytes.Equal(b, []byte{0x70, 0, 7, 0, 0, 0, 0, 0xa, 0, 0, 0, 0, 0x27, 0, 0, 0, 0, 0}) {
		t.Errorf("Protected: %x", b)
	}
	if b := sense.Bytes(good); !bytes.Equal(b, []byte{0x70, 0, 0, 0, 0, 0, 0, 0xa, 0, 0, 0, 0, 0, 0, 0, 0, 0, 0}) {
		t.Errorf("good: %x", b)
	}
	if b := sense.Bytes(api.Sense{Key: 1, Code: 2, Qual: 3}); !bytes.Equal(b, []byte{0x70, 0, 1, 0, 0, 0, 0, 0xa, 0, 0, 0, 0, 2, 3, 0, 0, 0, 0}) {
		t.Errorf("1 2 3: %x", b)
	}
}

// P4.1: of each number the lowest eight bits, whatever it is, and whatever the others are.
func TestBytesLowest(t *testing.T) {
	for _, k := range wide {
		for _, c := range wide {
			for _, q := range wide {
				b := sense.Bytes(api.Sense{Key: k.x, Code: c.x, Qual: q.x})
				if !bytes.Equal(b, laid(k.low, c.low, q.low)) {
					t.Errorf("%d %d %d: %x", k.x, c.x, q.x, b)
				}
			}
		}
	}
}

// parsed fails, unless these bytes are parsed as that sense.
func parsed(t *testing.T, b []byte, want api.Sense) {
	t.Helper()
	if s, ok := sense.Parse(b); !ok || s != want {
		t.Errorf("%x: %v %v, want %v", b, s, ok, want)
	}
}

// refused fails, unless these bytes are no sense's.
func refused(t *testing.T, b []byte) {
	t.Helper()
	if s, ok := sense.Parse(b); ok || s != good {
		t.Errorf("%x: %v %v, want none", b, s, ok)
	}
}

// P4.1: a key, a code and a qualifier of any byte each.
func TestParse(t *testing.T) {
	for x := range 256 {
		c := byte(x)
		parsed(t, laid(c, 0, 0), api.Sense{Key: x})
		parsed(t, laid(0, c, 0), api.Sense{Code: x})
		parsed(t, laid(0, 0, c), api.Sense{Qual: x})
		parsed(t, laid(c, c, c), api.Sense{Key: x, Code: x, Qual: x})
		parsed(t, laid(c, ^c, c^0x55), api.Sense{Key: x, Code: 255 - x, Qual: x ^ 0x55})
		parsed(t, laid(0xff, 0xff, c), api.Sense{Key: 255, Code: 255, Qual: x})
	}
	for _, c := range named {
		parsed(t, laid(byte(c.key), byte(c.code), byte(c.qual)), c.make())
	}
	r := rand.New(rand.NewPCG(4, 1))
	for range 5000 {
		k, c, q := r.IntN(256), r.IntN(256), r.IntN(256)
		parsed(t, laid(byte(k), byte(c), byte(q)), api.Sense{Key: k, Code: c, Qual: q})
	}
}

// P4.1: 18 bytes in which any one byte is another one: its number is another one, or they are none's.
func TestParseOneByte(t *testing.T) {
	for _, s := range []api.Sense{good, powerOn, {Key: 5, Code: 0x53, Qual: 2}, {Key: 255, Code: 255, Qual: 255}} {
		was := laid(byte(s.Key), byte(s.Code), byte(s.Qual))
		for i := range was {
			for x := range 256 {
				b := slices.Clone(was)
				b[i] = byte(x)
				want := s
				switch i {
				case 2:
					want.Key = x
				case 12:
					want.Code = x
				case 13:
					want.Qual = x
				default:
					if byte(x) != was[i] {
						refused(t, b)
						continue
					}
				}
				parsed(t, b, want)
			}
		}
	}
}

// P4.1: of any length but 18 bytes are none's, also where those behind, or the room behind, would make them a sense's.
func TestParseLengths(t *testing.T) {
	refused(t, nil)
	refused(t, []byte{})
	for _, s := range []api.Sense{good, powerOn, {Key: 255, Code: 255, Qual: 255}} {
		b := laid(byte(s.Key), byte(s.Code), byte(s.Qual))
		for n := range 18 {
			refused(t, b[:n])
			refused(t, slices.Clone(b[:n]))
			refused(t, b[18-n:])
		}
		for _, more := range []int{1, 2, 14, 18, 238, 1024, 65536} {
			refused(t, append(slices.Clone(b), make([]byte, more)...))
			refused(t, append(make([]byte, more), b...))
		}
		refused(t, append(slices.Clone(b), b...))
		roomy := append(slices.Clone(b), 1, 2, 3)
		parsed(t, roomy[:18], s)
		refused(t, roomy[:19])
		refused(t, roomy[1:19])
	}
	refused(t, make([]byte, 18))
	refused(t, bytes.Repeat([]byte{0x70}, 18))
	refused(t, bytes.Repeat([]byte{0xff}, 18))
}

// P4.2: a sense's bytes are parsed as it, if each of its numbers is a byte; else as the one of their lowest eight bits, whose bytes are the same.
func TestThereAndBack(t *testing.T) {
	for _, k := range wide {
		for _, c := range wide {
			for _, q := range wide {
				b := sense.Bytes(api.Sense{Key: k.x, Code: c.x, Qual: q.x})
				s, ok := sense.Parse(b)
				if !ok || s != (api.Sense{Key: int(k.low), Code: int(c.low), Qual: int(q.low)}) || !bytes.Equal(sense.Bytes(s), b) {
					t.Errorf("%d %d %d: %v %v", k.x, c.x, q.x, s, ok)
				}
			}
		}
	}
	for x := range 256 {
		for y := range 256 {
			for _, s := range []api.Sense{{Key: x, Code: y, Qual: x ^ y}, {Key: 6, Code: x, Qual: y}, {Key: x, Code: 0, Qual: y}} {
				if back, ok := sense.Parse(sense.Bytes(s)); !ok || back != s {
					t.Errorf("%v: %v %v", s, back, ok)
				}
			}
		}
	}
}

// P4.2: what is parsed, of bytes near to a sense's, has just those bytes.
func TestParsedHasThoseBytes(t *testing.T) {
	r := rand.New(rand.NewPCG(4, 2))
	taken := 0
	for range 20000 {
		b := laid(byte(r.IntN(256)), byte(r.IntN(256)), byte(r.IntN(256)))
		for range r.IntN(3) {
			b[r.IntN(len(b))] = byte(r.IntN(256))
		}
		b = append(b, make([]byte, r.IntN(2))...)
		s, ok := sense.Parse(b)
		if ok && !bytes.Equal(sense.Bytes(s), b) || !ok && s != good {
			t.Errorf("%x: %v %v", b, s, ok)
		}
		if ok {
			taken++
		}
	}
	if taken == 0 || taken == 20000 {
		t.Error("parsed:", taken)
	}
}

// P4.1: all 0 alone is good; a number isn't 0 by its lowest eight bits, and none is made up for by another one.
func TestGood(t *testing.T) {
	if !sense.Good(api.Sense{}) {
		t.Error("all 0")
	}
	for _, c := range wide {
		if c.x == 0 {
			continue
		}
		for _, s := range []api.Sense{{Key: c.x}, {Code: c.x}, {Qual: c.x}, {Key: c.x, Code: -c.x}, {Code: c.x, Qual: -c.x}, {Key: c.x, Qual: c.x}, {Key: c.x, Code: c.x, Qual: c.x}} {
			if sense.Good(s) {
				t.Error(s)
			}
		}
	}
}

// P4.1: the cases that the chapter names, written out.
func TestAddEdges(t *testing.T) {
	four := []api.Sense{newMedium, busReset, unitReset, nexusLoss}
	fourPower := []api.Sense{busReset, unitReset, powerOn, nexusLoss}
	other := api.Sense{Key: 6, Code: 0x2a, Qual: 1}
	for _, c := range []struct {
		name string
		l    []api.Sense
		s    api.Sense
		want []api.Sense
	}{
		{"to none", nil, newMedium, []api.Sense{newMedium}},
		{"to none, an empty list", []api.Sense{}, busReset, []api.Sense{busReset}},
		{"PowerOn to none", nil, powerOn, []api.Sense{powerOn}},
		{"to one", []api.Sense{newMedium}, busReset, []api.Sense{newMedium, busReset}},
		{"to PowerOn", []api.Sense{powerOn}, busReset, []api.Sense{powerOn, busReset}},
		{"to three", four[:3], nexusLoss, four},
		{"to four", four, other, four},
		{"to five", senses(5), other, senses(5)},
		{"to many", senses(300), other, senses(300)},
		{"the only one again", []api.Sense{newMedium}, newMedium, []api.Sense{newMedium}},
		{"the first one again", four[:3], newMedium, four[:3]},
		{"one between again", four[:3], busReset, four[:3]},
		{"the last one again", four[:3], unitReset, four[:3]},
		{"the first of four again", four, newMedium, four},
		{"the last of four again", four, nexusLoss, four},
		{"the last of five again", senses(5), senses(5)[4], senses(5)},
		{"PowerOn again", []api.Sense{powerOn}, powerOn, []api.Sense{powerOn}},
		{"PowerOn again, others behind it", []api.Sense{powerOn, busReset}, powerOn, []api.Sense{powerOn, busReset}},
		{"PowerOn again, others ahead of it", []api.Sense{busReset, powerOn}, powerOn, []api.Sense{busReset, powerOn}},
		{"PowerOn again, four", fourPower, powerOn, fourPower},
		{"PowerOn again, five", append(senses(4), powerOn), powerOn, append(senses(4), powerOn)},
		{"PowerOn where one waits", []api.Sense{newMedium}, powerOn, []api.Sense{powerOn}},
		{"PowerOn where three wait", four[:3], powerOn, []api.Sense{powerOn}},
		{"PowerOn where four wait", four, powerOn, []api.Sense{powerOn}},
		{"PowerOn where five wait", senses(5), powerOn, []api.Sense{powerOn}},
		{"one that has PowerOn's bytes", four[:2], api.Sense{Key: 262, Code: 0x29}, []api.Sense{newMedium, busReset, {Key: 262, Code: 0x29}}},
		{"one that has another one's bytes", []api.Sense{newMedium}, api.Sense{Key: 6 - 256, Code: 0x28}, []api.Sense{newMedium, {Key: 6 - 256, Code: 0x28}}},
		{"another key", []api.Sense{busReset}, api.Sense{Key: 5, Code: 0x29, Qual: 2}, []api.Sense{busReset, {Key: 5, Code: 0x29, Qual: 2}}},
		{"another code", []api.Sense{busReset}, api.Sense{Key: 6, Code: 0x28, Qual: 2}, []api.Sense{busReset, {Key: 6, Code: 0x28, Qual: 2}}},
		{"another qualifier", []api.Sense{busReset}, unitReset, []api.Sense{busReset, unitReset}},
		{"good to none", nil, good, []api.Sense{good}},
		{"good to some", four[:2], good, []api.Sense{newMedium, busReset, good}},
		{"good again", []api.Sense{good}, good, []api.Sense{good}},
		{"to one that is there twice", []api.Sense{busReset, busReset}, unitReset, []api.Sense{busReset, busReset, unitReset}},
		{"again one that is there twice", []api.Sense{busReset, busReset}, busReset, []api.Sense{busReset, busReset}},
	} {
		if l := sense.Add(c.l, c.s); !slices.Equal(l, c.want) {
			t.Errorf("%s: %v", c.name, l)
		}
	}
}

// P4.1: what lies in the spare room of a list isn't there: it may be added.
func TestAddRoomIsNotThere(t *testing.T) {
	room := []api.Sense{newMedium, busReset, powerOn, unitReset}
	if l := sense.Add(room[:1], busReset); !slices.Equal(l, []api.Sense{newMedium, busReset}) {
		t.Error(l)
	}
	if l := sense.Add(room[:1], unitReset); !slices.Equal(l, []api.Sense{newMedium, unitReset}) {
		t.Error(l)
	}
	if l := sense.Add(room[:2], powerOn); !slices.Equal(l, []api.Sense{powerOn}) {
		t.Error(l)
	}
}

// P4.1: the first of none, of one and of more.
func TestFirst(t *testing.T) {
	for _, l := range [][]api.Sense{nil, {}, senses(2)[:0]} {
		if s, rest := sense.First(l); s != good || len(rest) != 0 {
			t.Error("of none:", s, rest)
		}
	}
	if s, rest := sense.First([]api.Sense{busReset, unitReset}[:1]); s != busReset || len(rest) != 0 {
		t.Error("of one:", s, rest)
	}
	if s, rest := sense.First([]api.Sense{good, powerOn}); s != good || !slices.Equal(rest, []api.Sense{powerOn}) {
		t.Error("good is the first:", s, rest)
	}
	if s, rest := sense.First([]api.Sense{busReset, busReset}); s != busReset || !slices.Equal(rest, []api.Sense{busReset}) {
		t.Error("one that is there twice:", s, rest)
	}
	for _, n := range []int{1, 2, 3, 4, 5, 6, 100} {
		l := senses(n)
		if s, rest := sense.First(l); s != l[0] || len(rest) != n-1 || !slices.Equal(rest, l[1:]) {
			t.Error("of", n, s, rest)
		}
	}
}

// told is what First tells of a list till nothing waits any more; a list that doesn't end is left at some length.
func told(l []api.Sense) []api.Sense {
	var tells []api.Sense
	for len(l) > 0 && len(tells) < 100 {
		var s api.Sense
		s, l = sense.First(l)
		tells = append(tells, s)
	}
	return tells
}

// P4.2: all ways in which the attentions may come, one behind the other, and be told as they came, each once.
func TestToldAsTheyCame(t *testing.T) {
	four := []api.Sense{busReset, unitReset, nexusLoss, newMedium}
	for n := range 4 * 4 * 4 * 4 {
		var l, came []api.Sense
		for i := range 4 {
			s := four[n>>(2*i)&3]
			l = sense.Add(l, s)
			if !slices.Contains(came, s) {
				came = append(came, s)
			}
		}
		if tells := told(l); !slices.Equal(tells, came) {
			t.Error(n, tells, "came", came)
		}
		l = sense.Add(l, powerOn)
		for _, s := range came {
			l = sense.Add(l, s)
		}
		if tells := told(l); !slices.Equal(tells, append([]api.Sense{powerOn}, came...)[:min(4, len(came)+1)]) {
			t.Error(n, tells, "behind the power")
		}
	}
}

// waiting is a list of attentions that is kept in another way: each has the turn in which it came, 0 if it doesn't wait.
type waiting struct {
	turn map[api.Sense]int
	now  int
}

func (w *waiting) add(s api.Sense) {
	w.now++
	if w.turn[s] != 0 {
		return
	}
	if s == powerOn {
		clear(w.turn)
	}
	if len(w.turn) < 4 {
		w.turn[s] = w.now
	}
}

func (w *waiting) first() api.Sense {
	least, at := good, math.MaxInt
	for s, turn := range w.turn {
		if turn < at {
			least, at = s, turn
		}
	}
	delete(w.turn, least)
	return least
}

// P4.1 and P4.2: long ways, in which attentions come and are told; never more wait than may be, and none twice.
func TestLongWays(t *testing.T) {
	several := []api.Sense{powerOn, busReset, unitReset, nexusLoss, newMedium, {Key: 6, Code: 0x2a, Qual: 1}, {Key: 6, Code: 0x3f, Qual: 3}}
	for seed := range uint64(100) {
		r := rand.New(rand.NewPCG(seed, 4))
		w := waiting{turn: map[api.Sense]int{}}
		var l []api.Sense
		for step := range 300 {
			if r.IntN(4) == 0 {
				var s api.Sense
				s, l = sense.First(l)
				if want := w.first(); s != want {
					t.Fatal(seed, step, "tells", s, "not", want)
				}
				continue
			}
			s := several[r.IntN(len(several))]
			l = sense.Add(l, s)
			w.add(s)
			if len(l) > 4 || len(l) != len(w.turn) {
				t.Fatal(seed, step, len(l), "wait")
			}
		}
		for len(w.turn) > 0 {
			var s api.Sense
			s, l = sense.First(l)
			if want := w.first(); s != want {
				t.Fatal(seed, "at the end tells", s, "not", want)
			}
		}
		if len(l) != 0 {
			t.Fatal(seed, l, "still wait")
		}
	}
}

// lists are some with spare room that isn't 0, and that room as a whole, for each: of none to more than may be, with PowerOn, and without.
func lists() (l, rooms [][]api.Sense) {
	for n := range 8 {
		for _, at := range []int{-1, 0, n - 1} {
			room := senses(12)
			if at >= 0 {
				room[at] = powerOn
			}
			l, rooms = append(l, room[:n]), append(rooms, room)
		}
	}
	return l, rooms
}

// P4.1: what is handed in is as it was behind each call, its spare room too.
func TestArgumentsStay(t *testing.T) {
	all, rooms := lists()
	for i, l := range all {
		was := slices.Clone(rooms[i])
		for _, s := range append(senses(13), good, powerOn, busReset, newMedium) {
			sense.Add(l, s)
			if !slices.Equal(rooms[i], was) {
				t.Fatal("Add", len(l), s)
			}
		}
		sense.First(l)
		if !slices.Equal(rooms[i], was) {
			t.Fatal("First", len(l))
		}
	}
	room := append(laid(6, 0x29, 2), 1, 2, 3, 4)
	was := slices.Clone(room)
	for n := range len(room) + 1 {
		for from := range n + 1 {
			sense.Parse(room[from:n])
			if !bytes.Equal(room, was) {
				t.Fatal("Parse", from, n)
			}
		}
	}
}

// wipe writes over a list, and over its spare room.
func wipe[T any](l []T) {
	clear(l[:cap(l)])
}

// An answer is new memory: who writes into it, or into its spare room, changes nothing of what was handed in, nor of the next answer.
func TestAnswersAreNew(t *testing.T) {
	all, rooms := lists()
	for i, l := range all {
		was := slices.Clone(rooms[i])
		for _, s := range append(senses(13), good, powerOn, busReset, newMedium) {
			wipe(sense.Add(l, s))
		}
		_, rest := sense.First(l)
		wipe(rest)
		if !slices.Equal(rooms[i], was) {
			t.Error(len(l), "is shared")
		}
	}
	wipe(sense.Bytes(powerOn))
	if b := sense.Bytes(powerOn); !bytes.Equal(b, laid(6, 0x29, 0)) {
		t.Errorf("%x", b)
	}
	a, b := sense.Bytes(powerOn), sense.Bytes(busReset)
	wipe(a)
	if !bytes.Equal(b, laid(6, 0x29, 2)) {
		t.Errorf("%x", b)
	}
}

// Two lists that grow from one don't know of each other.
func TestListsApart(t *testing.T) {
	base := append(make([]api.Sense, 0, 8), newMedium)
	a, b := sense.Add(base, busReset), sense.Add(base, unitReset)
	if a[1] != busReset || b[1] != unitReset {
		t.Error(a, b)
	}
	c, d := sense.Add(a, nexusLoss), sense.Add(a, unitReset)
	if c[2] != nexusLoss || d[2] != unitReset {
		t.Error(c, d)
	}
	_, rest := sense.First(c)
	e, f := sense.Add(rest, unitReset), sense.Add(rest, newMedium)
	if e[2] != unitReset || f[2] != newMedium || !slices.Equal(c, []api.Sense{newMedium, busReset, nexusLoss}) {
		t.Error(c, e, f)
	}
}
