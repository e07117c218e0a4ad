package hold_test

import (
	"bytes"
	"maps"
	"math"
	"slices"
	"strings"
	"sync"
	"testing"

	"warrener/api"
	"warrener/arena"
	"warrener/blocks"
	"warrener/hold"
)

// world is an arena with a hold on each part that is of use, and what its bytes should be.
type world struct {
	a     *arena.Arena
	all   []byte
	holds []*model
}

// model is what one hold should tell: whose each block is, and what is kept as it was put.
type model struct {
	w    *world
	h    *hold.Hold
	from int   // where the part begins in the arena
	of   []int // of each block its handle, 0 of a free one
	kept map[int]string
	puts int
}

// wide are numbers far from any handle or part, and such that wrap round.
func wide() []int {
	return []int{math.MinInt, math.MinInt + 1, math.MinInt32, -1 << 32, -65536, -64, -2, -1,
		65, 65536, 1 << 20, math.MaxInt32, 1 << 32, 1<<32 + 1, 1 << 62, math.MaxInt - 1, math.MaxInt}
}

// mustWorld is an arena of these parts, and seven bytes behind them all, each byte with
// something in it, and a hold on each part.
func mustWorld(t *testing.T, parts ...int) *world {
	t.Helper()
	size := 7
	for _, n := range parts {
		size += n
	}
	a, e := arena.New(size, parts...)
	if e != api.OK {
		t.Fatalf("arena.New(%d, %v): %d", size, parts, e)
	}
	w := &world{a: a}
	for i, n := range parts {
		from := len(w.all)
		for k := range n {
			w.all = append(w.all, byte(200+i*17+k%29))
		}
		if e := a.Write(i, 0, w.all[from:]); e != api.OK {
			t.Fatalf("Write of %d bytes to part %d: %d", n, i, e)
		}
		h, e := hold.New(a, i)
		if h == nil || e != api.OK {
			t.Fatalf("New of part %d of %v: %d", i, parts, e)
		}
		w.holds = append(w.holds, &model{w: w, h: h, from: from, of: make([]int, n/32), kept: map[int]string{}})
	}
	w.all = append(w.all, make([]byte, 7)...)
	w.check(t, "new")
	return w
}

// one is a hold on a part of so many bytes, between two others.
func one(t *testing.T, bytes int) *model {
	t.Helper()
	return mustWorld(t, 40, bytes, 33).holds[1]
}

// check holds all bytes, and all that each hold tells, against what should be; twice,
// since telling it changes nothing.
func (w *world) check(t *testing.T, what string) {
	t.Helper()
	for range 2 {
		if all := w.a.All(); !bytes.Equal(all, w.all) {
			t.Fatalf("%s: the arena has %q, not %q", what, all, w.all)
		}
		for _, m := range w.holds {
			m.check(t, what)
		}
	}
}

func (m *model) check(t *testing.T, what string) {
	t.Helper()
	live := 0
	for _, s := range m.kept {
		live += len(s)
	}
	if m.h.Live() != live || m.h.Room() != m.free()*32 {
		t.Fatalf("%s: Live %d, Room %d, not %d, %d", what, m.h.Live(), m.h.Room(), live, m.free()*32)
	}
	if l := m.h.List(); !slices.Equal(l, m.handles()) {
		t.Fatalf("%s: List tells %v, not %v", what, l, m.handles())
	}
	for id := -1; id < m.puts+3; id++ {
		m.get(t, what, id)
	}
}

// get reads one, there or not.
func (m *model) get(t *testing.T, what string, id int) {
	t.Helper()
	s, ok := m.kept[id]
	want := api.ENONE
	if ok {
		want = api.OK
	}
	if b, e := m.h.Get(id); string(b) != s || e != want {
		t.Fatalf("%s: Get(%d): %q, %d, not %q, %d", what, id, b, e, s, want)
	}
}

func (m *model) handles() []int { return slices.Sorted(maps.Keys(m.kept)) }

func (m *model) free() int {
	n := 0
	for _, id := range m.of {
		if id == 0 {
			n++
		}
	}
	return n
}

// put puts s, and holds the answer, and all that is told then, against what should be.
func (m *model) put(t *testing.T, s string) int {
	t.Helper()
	need := (len(s) + 31) / 32
	id, e := 0, api.EFULL
	if need <= m.free() {
		m.puts++
		id, e = m.puts, api.OK
		m.kept[id] = s
		m.lay(id, s)
	}
	if got, g := m.h.Put([]byte(s)); got != id || g != e {
		t.Fatalf("Put of %d bytes into %v: %d, %d, not %d, %d", len(s), m.of, got, g, id, e)
	}
	m.w.check(t, "put")
	return id
}

// lay writes s into the least free blocks, one by one.
func (m *model) lay(id int, s string) {
	for i := 0; s != ""; i++ {
		if m.of[i] == 0 {
			m.of[i] = id
			s = s[copy(m.block(i), s):]
		}
	}
}

// block is a block's bytes as they should be.
func (m *model) block(i int) []byte { return m.w.all[m.from+i*32:][:32:32] }

// drop drops one, there or not, and holds what is told then against what should be.
func (m *model) drop(t *testing.T, id int) {
	t.Helper()
	want := api.ENONE
	if _, ok := m.kept[id]; ok {
		want = api.OK
		delete(m.kept, id)
		for i, of := range m.of {
			if of == id {
				m.of[i] = 0
			}
		}
	}
	if e := m.h.Drop(id); e != want {
		t.Fatalf("Drop(%d) of %v: %d, not %d", id, m.of, e, want)
	}
	m.w.check(t, "dropped")
}

// want holds what is told against numbers that are written out.
func (m *model) want(t *testing.T, live, room int, l ...int) {
	t.Helper()
	if m.h.Live() != live || m.h.Room() != room || !slices.Equal(m.h.List(), l) {
		t.Fatalf("Live %d, Room %d, List %v, not %d, %d, %v", m.h.Live(), m.h.Room(), m.h.List(), live, room, l)
	}
}

// text is n bytes that tell each place from those about it.
func text(first byte, n int) string {
	b := make([]byte, n)
	for i := range b {
		b[i] = first + byte(i*7+i/32*3)
	}
	return string(b)
}

func TestExample(t *testing.T) {
	a, _ := arena.New(64, 64)
	h, e := hold.New(a, 0)
	if e != api.OK {
		t.Fatalf("New: %d", e)
	}
	if id, e := h.Put([]byte("hello")); id != 1 || e != api.OK {
		t.Errorf("Put(hello): %d, %d", id, e)
	}
	if b, e := h.Get(1); string(b) != "hello" || e != api.OK {
		t.Errorf("Get(1): %q, %d", b, e)
	}
}

func TestNew(t *testing.T) {
	sizes := []int{64, 0, 1, 31, 32, 33, 63, 64, 65, 95, 96, 100, 0, 1023, 1024}
	w := mustWorld(t, sizes...)
	for i, m := range w.holds { // the first part, the last part, and those between
		m.want(t, 0, sizes[i]/32*32)
		m.put(t, text('a', sizes[i]/32*32+1))
		m.put(t, text('b', sizes[i]/32*32))
		m.want(t, sizes[i]/32*32, 0, 1)
		m.put(t, "c")
	}
}

// The first and the last of as many parts as there may be, and the part that is all.
func TestNewOfManyParts(t *testing.T) {
	w := mustWorld(t, slices.Repeat([]int{33}, api.MaxTenants)...)
	for _, i := range []int{0, 1, 31, 62, 63} {
		w.holds[i].put(t, text(byte(i), 32))
		w.holds[i].put(t, "x")
	}
	if h, e := hold.New(w.a, api.MaxTenants); h != nil || e != api.EARG {
		t.Errorf("New of part 64 of 64: %d", e)
	}
	a, _ := arena.New(api.MaxPool, api.MaxPool)
	h, e := hold.New(a, 0)
	if e != api.OK || h.Room() != 65536 || h.Live() != 0 {
		t.Errorf("New of all bytes: %d", e)
	}
}

func TestNewRefused(t *testing.T) {
	for _, parts := range [][]int{{}, {64}, {0}, {64, 32, 0}} {
		a, _ := arena.New(96, parts...)
		for _, part := range append(wide(), len(parts), len(parts)+1) {
			if h, e := hold.New(a, part); h != nil || e != api.EARG {
				t.Errorf("New of part %d of %d: %v, %d", part, len(parts), h, e)
			}
		}
	}
	for _, part := range append(wide(), 0, 1) {
		if h, e := hold.New(nil, part); h != nil || e != api.EARG {
			t.Errorf("New of nil, %d: %v, %d", part, h, e)
		}
	}
}

// None of a part is given out to a new hold, whatever was there, and its bytes stay.
func TestNewLater(t *testing.T) {
	m := one(t, 100)
	m.put(t, text('a', 70))
	m.put(t, "")
	was := m.w.a.All()
	h, e := hold.New(m.w.a, 1)
	if e != api.OK || h.Live() != 0 || h.Room() != 96 || len(h.List()) != 0 || !bytes.Equal(m.w.a.All(), was) {
		t.Fatalf("New: %d", e)
	}
	if b, e := h.Get(1); len(b) != 0 || e != api.ENONE {
		t.Errorf("Get(1) of a new one: %q, %d", b, e)
	}
	if id, e := h.Put([]byte(text('b', 96))); id != 1 || e != api.OK {
		t.Errorf("Put to a new one: %d, %d", id, e)
	}
}

func TestPutOfAnySize(t *testing.T) {
	for n := range 200 {
		m := one(t, 170) // five whole blocks
		m.put(t, text('a', n))
		if n > 160 {
			m.want(t, 0, 160)
			continue
		}
		m.want(t, n, 160-(n+31)/32*32, 1)
		m.put(t, text('b', 160-n))
		m.put(t, text('c', n))
		m.put(t, "d")
		m.drop(t, 1)
		m.put(t, text('e', n))
	}
}

// Just a block, one byte fewer and one byte more.
func TestPutAtEdges(t *testing.T) {
	for _, c := range [][2]int{{0, 0}, {1, 1}, {31, 1}, {32, 1}, {33, 2}, {63, 2}, {64, 2}, {65, 3}, {96, 3}} {
		m := one(t, 96)
		if id := m.put(t, text('a', c[0])); id != 1 {
			t.Errorf("Put of %d bytes: %d", c[0], id)
		}
		if room := m.h.Room(); room != 96-c[1]*32 {
			t.Errorf("Put of %d bytes: Room %d", c[0], room)
		}
	}
}

func TestPutOfNothing(t *testing.T) {
	for _, size := range []int{0, 31, 64} {
		m := one(t, size)
		room := size / 32 * 32
		m.put(t, "")
		m.put(t, "")
		m.want(t, 0, room, 1, 2)
		m.put(t, text('a', room))
		m.put(t, "")
		m.want(t, room, 0, 1, 2, 3, 4) // no block is free, and none is asked for
		if id, e := m.h.Put([]byte{}); id != 5 || e != api.OK {
			t.Errorf("Put of an empty list: %d, %d", id, e)
		}
		if id, e := m.h.Put(nil); id != 6 || e != api.OK {
			t.Errorf("Put of nil: %d, %d", id, e)
		}
		for _, id := range []int{5, 6} {
			if b, e := m.h.Get(id); len(b) != 0 || e != api.OK {
				t.Errorf("Get of no bytes: %q, %d", b, e)
			}
			if e := m.h.Drop(id); e != api.OK {
				t.Errorf("Drop of no bytes: %d", e)
			}
		}
		m.puts = 6
		m.drop(t, 2)
		m.drop(t, 2)
		m.put(t, "")
		m.want(t, room, 0, 1, 3, 4, 7)
	}
}

// b lies in order in the least free blocks, which need not lie side by side.
func TestPutBetween(t *testing.T) {
	m := one(t, 200) // six whole blocks
	for _, c := range "abcdef" {
		m.put(t, strings.Repeat(string(c), 32))
	}
	m.drop(t, 5)
	m.drop(t, 2)
	m.drop(t, 3)
	s := text('0', 70)
	if id := m.put(t, s); id != 7 {
		t.Fatalf("Put: %d", id)
	}
	all := m.w.a.All()[40:]
	for i, want := range []string{strings.Repeat("a", 32), s[:32], s[32:64], strings.Repeat("d", 32), s[64:] + strings.Repeat("e", 26), strings.Repeat("f", 32)} {
		if got := string(all[i*32:][:32]); got != want {
			t.Errorf("block %d has %q, not %q", i, got, want)
		}
	}
	m.want(t, 166, 0, 1, 4, 6, 7)
	m.drop(t, 7)
	m.drop(t, 1)
	m.put(t, "x") // the least of the free ones, not the one that was dropped first
	if all := m.w.a.All(); all[40] != 'x' || all[41] != 'a' || all[72] != '0' {
		t.Errorf("Put of one byte: %q", all[40:80])
	}
}

// What of the last block is behind b stays as it was.
func TestPutLeavesWhatIsBehind(t *testing.T) {
	for n := range 97 {
		m := one(t, 130)
		m.put(t, strings.Repeat("x", 128))
		m.drop(t, 1)
		was := m.w.a.All()
		s := strings.Repeat("y", n)
		m.put(t, s)
		if all := m.w.a.All(); string(all[40:40+n]) != s || !bytes.Equal(all[40+n:], was[40+n:]) || !bytes.Equal(all[:40], was[:40]) {
			t.Fatalf("Put of %d bytes: %q", n, all)
		}
	}
}

func TestPutRefused(t *testing.T) {
	for _, n := range []int{0, 1, 32, 33, 64, 95, 96} {
		m := one(t, 100)
		m.put(t, text('a', n))
		room := m.h.Room()
		was := m.w.a.All()
		for _, more := range []int{1, 2, 31, 32, 33, 64, 96, 128, 65536, 65537, 1 << 20} {
			id, e := m.h.Put(make([]byte, room+more))
			if id != 0 || e != api.EFULL {
				t.Fatalf("Put of %d bytes with %d free: %d, %d", room+more, room, id, e)
			}
			if !bytes.Equal(m.w.a.All(), was) {
				t.Fatalf("a Put that was refused has written")
			}
			m.want(t, n, room, 1)
		}
		if id := m.put(t, text('b', room)); id != 2 { // the next handle, and all of the room
			t.Fatalf("Put of %d bytes: %d", room, id)
		}
		m.drop(t, 1)
		if id := m.put(t, text('c', n)); id != 3 {
			t.Fatalf("Put of %d bytes: %d", n, id)
		}
	}
}

// The blocks are enough together, but too few are free.
func TestPutRefusedBetween(t *testing.T) {
	m := one(t, 160)
	for range 5 {
		m.put(t, text('a', 20))
	}
	m.drop(t, 2)
	m.drop(t, 4)
	m.put(t, text('b', 65))
	m.put(t, text('b', 96))
	m.want(t, 60, 64, 1, 3, 5)
	if id := m.put(t, text('b', 64)); id != 6 {
		t.Errorf("Put of just as many: %d", id)
	}
	m.put(t, "c")
}

// A handle tells how many Puts were OK ahead, whatever was refused and dropped.
func TestHandles(t *testing.T) {
	m := one(t, 64)
	for k, c := range []struct{ n, id int }{{5, 1}, {64, 0}, {0, 2}, {32, 3}, {1, 0}, {33, 0}, {0, 4}} {
		if id := m.put(t, text('a', c.n)); id != c.id {
			t.Fatalf("Put number %d, of %d bytes: %d, not %d", k, c.n, id, c.id)
		}
	}
	for _, id := range []int{4, 3} { // the last ones; then all of them
		m.drop(t, id)
	}
	if id := m.put(t, "b"); id != 5 {
		t.Errorf("Put behind a Drop of the last ones: %d", id)
	}
	for _, id := range []int{1, 2, 5} {
		m.drop(t, id)
	}
	m.want(t, 0, 64)
	m.drop(t, 5)
	m.put(t, text('c', 65))
	if id := m.put(t, text('c', 64)); id != 6 {
		t.Errorf("Put behind Drops of all: %d", id)
	}
	m.want(t, 64, 0, 6)
}

func TestGetAndDropRefused(t *testing.T) {
	m := one(t, 130)
	wrong := func(ids ...int) {
		t.Helper()
		live, room, l, was := m.h.Live(), m.h.Room(), m.h.List(), m.w.a.All()
		for _, id := range append(ids, wide()...) {
			if b, e := m.h.Get(id); len(b) != 0 || e != api.ENONE {
				t.Fatalf("Get(%d): %q, %d", id, b, e)
			}
			if e := m.h.Drop(id); e != api.ENONE {
				t.Fatalf("Drop(%d): %d", id, e)
			}
			m.want(t, live, room, l...)
		}
		if !bytes.Equal(m.w.a.All(), was) {
			t.Fatalf("what was refused has written")
		}
		m.w.check(t, "refused")
	}
	wrong(0, 1, 2, 3) // none was ever given
	m.put(t, text('a', 40))
	m.put(t, "")
	m.put(t, text('b', 33))
	m.put(t, "c") // refused
	wrong(0, 4, 5)
	m.drop(t, 1)
	m.drop(t, 2) // of no bytes
	wrong(0, 1, 2, 4)
	m.put(t, text('d', 50)) // in the blocks of one that was dropped
	wrong(0, 1, 2, 5)
	m.drop(t, 3)
	m.drop(t, 4)
	wrong(0, 1, 2, 3, 4, 5)
	m.want(t, 0, 128)
}

// The bytes stay as they are, and the blocks are free.
func TestDrop(t *testing.T) {
	m := one(t, 130)
	s := text('a', 70)
	m.put(t, s)
	m.put(t, text('b', 32))
	was := m.w.a.All()
	m.drop(t, 1)
	m.want(t, 32, 96, 2)
	if all := m.w.a.All(); !bytes.Equal(all, was) || string(all[40:110]) != s {
		t.Errorf("a Drop has written: %q", all)
	}
	m.drop(t, 2)
	m.want(t, 0, 128)
	if !bytes.Equal(m.w.a.All(), was) {
		t.Errorf("a Drop has written")
	}
	for k := range 1500 { // they do not wear out
		id, e := m.h.Put([]byte(text(byte(k), 100+k%29)))
		if id != k+3 || e != api.OK || m.h.Drop(id) != api.OK || m.h.Room() != 128 {
			t.Fatalf("Put number %d: %d, %d", k, id, e)
		}
	}
}

// Many are kept, and go in any order; the handles are told rising.
func TestListRises(t *testing.T) {
	m := one(t, 650)
	for k := range 20 {
		m.put(t, text(byte(k), k))
	}
	m.want(t, 190, 32, 1, 2, 3, 4, 5, 6, 7, 8, 9, 10, 11, 12, 13, 14, 15, 16, 17, 18, 19, 20)
	for _, id := range []int{20, 1, 7, 13, 12, 2, 16} {
		m.drop(t, id)
	}
	m.put(t, text('x', 60))
	m.want(t, 186, 160, 3, 4, 5, 6, 8, 9, 10, 11, 14, 15, 17, 18, 19, 21)
}

// All bytes of the greatest part: one that has all of them, and one of a byte in each block.
func TestGreatPart(t *testing.T) {
	a, _ := arena.New(api.MaxPool, api.MaxPool)
	h, _ := hold.New(a, 0)
	s := text('s', api.MaxPool)
	if id, e := h.Put([]byte(s + "x")); id != 0 || e != api.EFULL {
		t.Fatalf("Put of one byte too many: %d, %d", id, e)
	}
	if id, e := h.Put([]byte(s)); id != 1 || e != api.OK || h.Room() != 0 || h.Live() != api.MaxPool {
		t.Fatalf("Put of all bytes: %d, %d", id, e)
	}
	if b, e := h.Get(1); string(b) != s || e != api.OK || string(a.All()) != s {
		t.Fatalf("Get of all bytes: %d", e)
	}
	h.Drop(1)
	for k := range 2048 {
		if id, e := h.Put([]byte{byte(k / 7)}); id != k+2 || e != api.OK {
			t.Fatalf("Put into block %d: %d, %d", k, id, e)
		}
	}
	if id, e := h.Put([]byte{1}); id != 0 || e != api.EFULL || h.Room() != 0 || h.Live() != 2048 || len(h.List()) != 2048 {
		t.Fatalf("Put behind 2048: %d, %d", id, e)
	}
	for k := range 2048 {
		if b, e := h.Get(k + 2); len(b) != 1 || b[0] != byte(k/7) || e != api.OK {
			t.Fatalf("Get of block %d: %v, %d", k, b, e)
		}
	}
}

// The bytes are kept in the arena itself.
func TestKeptInArena(t *testing.T) {
	m := one(t, 130)
	m.put(t, text('a', 20))
	m.put(t, text('b', 40))
	if e := m.w.a.Write(1, 62, []byte("WXYZ")); e != api.OK {
		t.Fatalf("Write: %d", e)
	}
	s := text('b', 40)
	b, e := m.h.Get(2)
	if want := s[:30] + "WXYZ" + s[34:]; string(b) != want || e != api.OK {
		t.Errorf("Get: %q, %d, not %q", b, e, want)
	}
}

// Two holds on two parts of one arena, neither of which has whole blocks alone.
func TestApart(t *testing.T) {
	w := mustWorld(t, 5, 70, 100, 31)
	a, b := w.holds[1], w.holds[2]
	was := w.a.All()
	a.put(t, text('a', 33))
	b.put(t, text('b', 90))
	a.put(t, "")
	a.drop(t, 2)
	b.drop(t, 2) // handles are a hold's own
	a.put(t, text('c', 65))
	a.drop(t, 1)
	a.put(t, text('d', 64))
	b.drop(t, 1)
	b.put(t, text('e', 33))
	b.put(t, text('f', 32))
	a.want(t, 64, 0, 3)
	b.want(t, 65, 0, 2, 3)
	all := w.a.All()
	for _, c := range [][2]int{{0, 5}, {69, 75}, {171, 175}, {175, 206}, {206, 213}} { // other parts, ends of parts, and what is behind all parts
		if !bytes.Equal(all[c[0]:c[1]], was[c[0]:c[1]]) {
			t.Errorf("bytes %d to %d are touched: %q", c[0], c[1], all[c[0]:c[1]])
		}
	}
}

// Holds on two arenas.
func TestArenasApart(t *testing.T) {
	a, b := one(t, 64), one(t, 64)
	a.put(t, text('a', 40))
	b.w.check(t, "another")
	b.put(t, text('b', 64))
	b.drop(t, 1)
	a.w.check(t, "another")
	a.put(t, "c")
	b.put(t, "d")
	a.w.check(t, "another")
}

// All rows of four steps on a part of three blocks.
func TestAllRows(t *testing.T) {
	const steps = 9
	for row := range steps * steps * steps * steps {
		m := one(t, 97)
		for k := range 4 {
			switch step := row % steps; step {
			case 6, 7, 8:
				m.drop(t, step-5)
			default:
				m.put(t, text(byte('a'+k), []int{0, 1, 32, 33, 64, 96}[step]))
			}
			row /= steps
		}
	}
}

// Long rows of Puts and Drops on three parts of one arena: each that is kept reads as it
// was put.
func TestAnySteps(t *testing.T) {
	for seed := range uint32(48) {
		x := seed*7919 + 1
		next := func(n int) int {
			x = x*1664525 + 1013904223
			return int(x>>8) % n
		}
		w := mustWorld(t, []int{0, 64, 320, 33}[seed%4], next(700), []int{130, 0, 31}[seed%3])
		for range 120 {
			m := w.holds[next(3)]
			if l := m.handles(); next(5) < 2 && len(l) > 0 {
				m.drop(t, l[next(len(l))])
				continue
			}
			if next(9) == 0 {
				m.drop(t, next(m.puts+3)-1)
				continue
			}
			m.put(t, text(byte(next(256)), next(1+next(200))))
		}
	}
}

// overwrite writes all over an answer, spare room included.
func overwrite[T byte | int](l []T) {
	l = l[:cap(l)]
	for k := range l {
		l[k] = 99
	}
	_ = append(l, 98)
}

func TestAnswersAreNewMemory(t *testing.T) {
	for n := range 130 {
		m := one(t, 260)
		m.put(t, text('a', n))
		m.put(t, text('b', 40))
		for _, id := range []int{1, 2} {
			first, _ := m.h.Get(id)
			second, _ := m.h.Get(id)
			overwrite(first)
			if string(second) != m.kept[id] {
				t.Fatalf("two Gets of %d bytes share memory", n)
			}
			m.w.check(t, "a Get was written over")
			overwrite(second)
			m.w.check(t, "both Gets were written over")
		}
		first, second := m.h.List(), m.h.List()
		overwrite(first)
		if !slices.Equal(second, []int{1, 2}) {
			t.Fatalf("two Lists share memory: %v", second)
		}
		m.w.check(t, "a List was written over")
		overwrite(second)
		m.w.check(t, "both Lists were written over")
		m.put(t, text('c', 60))
		m.drop(t, 1)
		m.put(t, text('d', n))
	}
}

// An answer is what was so then, whatever comes later.
func TestAnswersStay(t *testing.T) {
	m := one(t, 130)
	m.put(t, text('a', 70))
	m.put(t, "")
	b, _ := m.h.Get(1)
	l := m.h.List()
	m.drop(t, 1)
	m.put(t, text('x', 100))
	m.drop(t, 2)
	if string(b) != text('a', 70) || !slices.Equal(l, []int{1, 2}) {
		t.Errorf("answers hang on what comes later: %q, %v", b, l)
	}
}

// What is put is neither kept nor changed, spare room included.
func TestPutLeavesBytes(t *testing.T) {
	was := text('a', 200)
	for _, n := range []int{0, 1, 31, 32, 33, 40, 64, 65, 128, 129, 199} { // the last two are refused
		m := one(t, 130)
		room := []byte(was)
		id, e := m.h.Put(room[:n])
		if string(room) != was || (e != api.OK) != (n > 128) {
			t.Fatalf("Put of %d bytes: %d; what was put is changed, if not %q", n, e, room)
		}
		clear(room)
		if b, _ := m.h.Get(id); e == api.OK && string(b) != was[:n] {
			t.Fatalf("what was put is kept: %q", b)
		}
	}
}

// What was answered is put as it is.
func TestPutOfAnswers(t *testing.T) {
	m := one(t, 230)
	m.put(t, text('a', 70))
	b, _ := m.h.Get(1)
	m.put(t, string(b))
	m.put(t, string(m.w.a.All()[40:72]))
	m.want(t, 172, 0, 1, 2, 3)
	m.drop(t, 1)
	m.put(t, string(b))
}

// As many blocks are taken as blocks tells that so many bytes need.
func TestNeed(t *testing.T) {
	for n := range 300 {
		m := one(t, 320)
		m.put(t, text('a', n))
		if room := m.h.Room(); room != 320-blocks.Need(n)*api.Block {
			t.Errorf("Put of %d bytes: Room %d", n, room)
		}
	}
}

func TestSideBySide(t *testing.T) {
	var all sync.WaitGroup
	wrong := make([]bool, 8)
	for i := range wrong {
		all.Go(func() {
			a, _ := arena.New(400, 3, 40*i)
			h, _ := hold.New(a, 1)
			for k := range 300 {
				s := text(byte(i+k), 40*i/32*32)
				id, e := h.Put([]byte(s))
				b, g := h.Get(id)
				if id != k+1 || e != api.OK || g != api.OK || string(b) != s || h.Room() != 0 || h.Live() != len(s) || h.Drop(id) != api.OK {
					wrong[i] = true
				}
			}
		})
	}
	all.Wait()
	for i, w := range wrong {
		if w {
			t.Errorf("worker %d", i)
		}
	}
}
