package arena_test

import (
	"bytes"
	"math"
	"slices"
	"strconv"
	"sync"
	"testing"

	"warrener/api"
	"warrener/arena"
)

// model is what should be there: each part's bytes in a list of its own, and those
// behind the last part, so that no part can reach another.
type model struct {
	parts  [][]byte
	behind []byte
}

func newModel(size int, budgets ...int) model {
	var m model
	for _, n := range budgets {
		m.parts = append(m.parts, make([]byte, n))
		size -= n
	}
	m.behind = make([]byte, size)
	return m
}

func (m model) all() []byte { return append(slices.Concat(m.parts...), m.behind...) }

// wide are numbers far from any place in an arena, and such that they wrap round.
func wide() []int {
	return []int{math.MinInt, math.MinInt + 1, math.MinInt + 4, math.MinInt32, -65537, -65536, -64, -2, -1,
		65537, math.MaxInt32, 1 << 32, 1<<32 + 1, 1 << 62, math.MaxInt - 4, math.MaxInt - 1, math.MaxInt}
}

// mustNew is an arena that there is, and what should be in it.
func mustNew(t *testing.T, size int, budgets ...int) (*arena.Arena, model) {
	t.Helper()
	a, e := arena.New(size, budgets...)
	if e != api.OK || a == nil {
		t.Fatalf("New(%d, %v): %d", size, budgets, e)
	}
	return a, newModel(size, budgets...)
}

// check holds all that an arena tells against what should be there; twice, since
// telling it changes nothing.
func check(t *testing.T, what string, a *arena.Arena, m model) {
	t.Helper()
	for range 2 {
		if a.Parts() != len(m.parts) {
			t.Fatalf("%s: Parts %d, not %d", what, a.Parts(), len(m.parts))
		}
		if !bytes.Equal(a.All(), m.all()) {
			t.Fatalf("%s: All tells %x, not %x", what, a.All(), m.all())
		}
		at := 0
		for i, p := range m.parts {
			if from, to, ok := a.Region(i); !ok || from != at || to != at+len(p) {
				t.Fatalf("%s: Region(%d): %d, %d, %v, not %d, %d", what, i, from, to, ok, at, at+len(p))
			}
			if b, e := a.Read(i, 0, len(p)); e != api.OK || !bytes.Equal(b, p) {
				t.Fatalf("%s: Read(%d, 0, %d): %x, %d, not %x", what, i, len(p), b, e, p)
			}
			at += len(p)
		}
		for _, i := range append(wide(), len(m.parts), len(m.parts)+1) {
			if from, to, ok := a.Region(i); ok || from != 0 || to != 0 {
				t.Fatalf("%s: Region(%d) of none: %d, %d, %v", what, i, from, to, ok)
			}
		}
	}
}

// refused holds that neither a Read nor a Write is let there, and that nothing is changed.
func refused(t *testing.T, a *arena.Arena, m model, i, at, n int, want api.Errno) {
	t.Helper()
	what := "part " + strconv.Itoa(i) + ", at " + strconv.Itoa(at) + ", " + strconv.Itoa(n) + " bytes"
	if b, e := a.Read(i, at, n); e != want || len(b) != 0 {
		t.Fatalf("Read of %s: %x, %d, not %d", what, b, e, want)
	}
	if n >= 0 && n <= 2*api.MaxPool {
		if e := a.Write(i, at, bytes.Repeat([]byte{0xee}, n)); e != want {
			t.Fatalf("Write to %s: %d, not %d", what, e, want)
		}
	}
	if !bytes.Equal(a.All(), m.all()) {
		t.Fatalf("%s: refused, and bytes are changed", what)
	}
}

// write writes to both the arena and what should be in it.
func write(t *testing.T, a *arena.Arena, m model, i, at int, b []byte) {
	t.Helper()
	if e := a.Write(i, at, b); e != api.OK {
		t.Fatalf("Write(%d, %d, %d bytes): %d", i, at, len(b), e)
	}
	copy(m.parts[i][at:], b)
}

// read holds a Read against what should be there.
func read(t *testing.T, a *arena.Arena, m model, i, at, n int) {
	t.Helper()
	if b, e := a.Read(i, at, n); e != api.OK || !bytes.Equal(b, m.parts[i][at:at+n]) {
		t.Fatalf("Read(%d, %d, %d): %x, %d, not %x", i, at, n, b, e, m.parts[i][at:at+n])
	}
}

// fill gives each part bytes of its own, none of them 0.
func fill(t *testing.T, a *arena.Arena, m model) {
	t.Helper()
	for i, p := range m.parts {
		b := make([]byte, len(p))
		for k := range b {
			b[k] = byte(1 + (i*31+k)%255)
		}
		write(t, a, m, i, 0, b)
	}
}

func TestExample(t *testing.T) {
	a, e := arena.New(10, 4, 6)
	if e != api.OK {
		t.Fatalf("New(10, 4, 6): %d", e)
	}
	for i, want := range [][2]int{{0, 4}, {4, 10}} {
		if from, to, ok := a.Region(i); !ok || from != want[0] || to != want[1] {
			t.Errorf("Region(%d): %d, %d, %v", i, from, to, ok)
		}
	}
}

func TestNew(t *testing.T) {
	each := func(n, budget int) []int { return slices.Repeat([]int{budget}, n) }
	for i, c := range []struct {
		size    int
		budgets []int
	}{
		{0, nil}, {0, []int{}}, {0, []int{0}}, {0, []int{0, 0, 0}}, {0, each(64, 0)},
		{1, nil}, {1, []int{0}}, {1, []int{1}}, {1, []int{0, 1}}, {1, []int{1, 0}}, {1, []int{0, 1, 0}},
		{10, nil}, {10, []int{4, 6}}, {10, []int{4, 5}}, {10, []int{6, 4}}, {10, []int{10}}, {10, []int{9}}, {10, []int{0, 10, 0}}, {10, []int{1, 2, 3, 4}},
		{100, each(64, 1)}, {64, each(64, 1)}, {100, each(63, 1)}, {100, append(each(63, 0), 100)}, {100, append([]int{100}, each(63, 0)...)},
		{65535, nil}, {65535, []int{65535}}, {65536, nil}, {65536, []int{65536}}, {65536, []int{65535}}, {65536, []int{1, 65535}}, {65536, []int{65535, 1}}, {65536, each(64, 1024)}, {65536, each(64, 0)},
	} {
		a, m := mustNew(t, c.size, c.budgets...)
		what := "New number " + strconv.Itoa(i)
		check(t, what, a, m)
		fill(t, a, m) // each part has as many bytes as its budget
		check(t, what+", filled", a, m)
		for k, p := range m.parts { // and no more
			refused(t, a, m, k, len(p), 1, api.EOVER)
		}
	}
}

func TestNewOfAnyCounts(t *testing.T) {
	for n := range 65 {
		budgets := make([]int, n)
		size := 0
		for i := range budgets {
			budgets[i] = (i*i + n) % 5
			size += budgets[i]
		}
		for _, more := range []int{0, 1, 7} {
			a, m := mustNew(t, size+more, budgets...)
			check(t, strconv.Itoa(n)+" budgets", a, m)
		}
		if size > 0 {
			if a, e := arena.New(size-1, budgets...); a != nil || e != api.EARG {
				t.Errorf("%d budgets of %d together, New(%d): %d", n, size, size-1, e)
			}
		}
	}
}

func TestNewIsRefused(t *testing.T) {
	least, most := math.MinInt, math.MaxInt
	many := func(n, budget int) []int { return slices.Repeat([]int{budget}, n) }
	for _, c := range []struct {
		size    int
		budgets []int
	}{
		{-1, nil}, {-1, []int{0}}, {-1, []int{-1}}, {-1, []int{-1, 0}}, {-2, nil}, {-65536, nil}, {math.MinInt32, nil}, {least, nil}, {least, []int{0}}, {least, []int{most}}, {-1 << 32, nil},
		{65537, nil}, {65537, []int{1}}, {65537, []int{65537}}, {1 << 17, nil}, {math.MaxInt32, nil}, {1 << 32, nil}, {1<<32 + 10, []int{4, 6}}, {1 << 62, nil}, {most, nil}, {most, []int{most}},
		{10, many(65, 0)}, {0, many(65, 0)}, {65536, many(65, 1)}, {10, many(66, 0)}, {10, many(128, 0)}, {10, many(1<<16, 0)}, {10, many(1<<16+1, 0)},
		{10, []int{-1}}, {10, []int{-1, 4}}, {10, []int{4, -1}}, {10, []int{4, -1, 4}}, {10, []int{11, -1}}, {10, []int{-1, 11}}, {10, []int{10, 1, -1}}, {10, []int{4, 6, -10}}, {0, []int{-1}}, {0, []int{-1, 1}}, {0, []int{1, -1}}, {10, append(many(63, 0), -1)},
		{10, []int{least}}, {10, []int{0, least}}, {10, []int{least, 4}}, {10, []int{least, least}}, {10, []int{1, math.MinInt32}},
		{10, []int{11}}, {10, []int{4, 7}}, {10, []int{7, 4}}, {10, []int{0, 11}}, {10, []int{10, 1}}, {10, []int{10, 0, 1}}, {10, []int{1, 10}}, {0, []int{1}}, {0, []int{0, 1}}, {63, many(64, 1)}, {65536, []int{65537}}, {65536, []int{65536, 1}}, {65536, []int{1, 65536}}, {65536, many(64, 1025)},
		{10, []int{most}}, {10, []int{4, most}}, {10, []int{most, 4}}, {10, []int{1, most}}, {10, []int{most, most}}, {10, []int{most, most, 2}}, {10, []int{most, 1, most, 1}}, {10, []int{4, most, most, 6}}, {65536, []int{1 << 62, 1 << 62}}, {65536, []int{1 << 62, 1 << 62, 1 << 62, 1 << 62}}, {65536, []int{65536, 1 << 32}}, {65536, []int{1 << 32}}, {65536, many(64, 1<<58)}, {65536, many(32, 1<<59)}, {10, []int{math.MaxInt32, 1, math.MaxInt32, 1}},
	} {
		if a, e := arena.New(c.size, c.budgets...); a != nil || e != api.EARG {
			t.Errorf("New(%d, %d budgets, first %v): %v, %d, not EARG", c.size, len(c.budgets), c.budgets[:min(4, len(c.budgets))], a != nil, e)
		}
	}
}

// The budgets are neither kept nor changed, spare room included.
func TestNewLeavesBudgets(t *testing.T) {
	room := []int{4, 0, 6, 7, 8}
	a, e := arena.New(12, room[:3]...)
	if e != api.OK {
		t.Fatalf("New: %d", e)
	}
	m := newModel(12, 4, 0, 6)
	fill(t, a, m)
	arena.New(9, room[:3]...)
	if !slices.Equal(room, []int{4, 0, 6, 7, 8}) {
		t.Errorf("budgets are changed: %v", room)
	}
	for i := range room {
		room[i] = 1
	}
	check(t, "budgets written over", a, m)
}

// All places of all parts of a small arena, those that are let and those that are not.
func TestAllPlaces(t *testing.T) {
	budgets := []int{3, 0, 1, 5, 2}
	for i := -2; i < len(budgets)+2; i++ {
		for at := -2; at < 8; at++ {
			for n := -2; n < 14; n++ {
				a, m := mustNew(t, 13, budgets...)
				fill(t, a, m)
				switch {
				case i < 0 || i >= len(budgets):
					refused(t, a, m, i, at, n, api.EARG)
				case at < 0 || n < 0 || at+n > budgets[i]:
					refused(t, a, m, i, at, n, api.EOVER)
				default:
					read(t, a, m, i, at, n)
					write(t, a, m, i, at, bytes.Repeat([]byte{0xf0 + byte(n)}, n))
					check(t, "all places", a, m)
					read(t, a, m, i, at, n)
				}
			}
		}
	}
}

func TestOfNoPart(t *testing.T) {
	for _, budgets := range [][]int{nil, {0}, {4}, {4, 6}, {0, 0, 10}, slices.Repeat([]int{1}, 64)} {
		a, m := mustNew(t, 70, budgets...)
		fill(t, a, m)
		for _, i := range append(wide(), len(budgets), len(budgets)+1, len(budgets)+63) {
			for _, at := range append(wide(), 0, 1, 70) { // EARG is named ahead of EOVER
				for _, n := range append(wide(), 0, 1, 70, 71) {
					refused(t, a, m, i, at, n, api.EARG)
				}
			}
		}
		check(t, "none", a, m)
	}
}

func TestOver(t *testing.T) {
	budgets := []int{4, 0, 6, 3}
	a, m := mustNew(t, 20, budgets...)
	fill(t, a, m)
	for i, size := range budgets {
		for _, at := range append(wide(), 0, 1, size, size+1) {
			for _, n := range append(wide(), 0, 1, size, size+1) {
				if at < 0 || n < 0 || at > size || n > size-at {
					refused(t, a, m, i, at, n, api.EOVER)
				}
			}
		}
		for at := range size + 1 { // one past the end, from each place
			refused(t, a, m, i, at, size-at+1, api.EOVER)
			refused(t, a, m, i, at, -1, api.EOVER)
			refused(t, a, m, i, at, math.MaxInt-at+1, api.EOVER) // together they wrap round
			refused(t, a, m, i, at, math.MinInt, api.EOVER)
		}
		refused(t, a, m, i, size+1, -1, api.EOVER) // together just at the end, or at its begin
		refused(t, a, m, i, -1, size+1, api.EOVER)
		refused(t, a, m, i, -1, 1, api.EOVER)
		refused(t, a, m, i, size+1, 0, api.EOVER)
		refused(t, a, m, i, -1, 0, api.EOVER)
	}
	check(t, "over", a, m)
}

func TestEnds(t *testing.T) {
	for _, budgets := range [][]int{{4, 6}, {4, 0, 6}, {1, 1, 1}, {0, 5, 0}, {10}, {0}} {
		a, m := mustNew(t, 12, budgets...)
		for i, size := range budgets { // of each part, the first and the last too
			for n := range size + 1 {
				write(t, a, m, i, size-n, bytes.Repeat([]byte{byte(16*i + n + 1)}, n)) // it ends just where the part ends
				check(t, "to the end", a, m)
				read(t, a, m, i, size-n, n)
				read(t, a, m, i, 0, n)
			}
			write(t, a, m, i, size, nil)
			write(t, a, m, i, size, []byte{})
			write(t, a, m, i, 0, nil)
			check(t, "nothing written", a, m)
		}
	}
}

func TestReadOfNoBytes(t *testing.T) {
	a, m := mustNew(t, 10, 4, 0, 6)
	fill(t, a, m)
	for i, p := range m.parts {
		for at := range len(p) + 1 {
			if b, e := a.Read(i, at, 0); len(b) != 0 || e != api.OK {
				t.Errorf("Read(%d, %d, 0): %x, %d", i, at, b, e)
			}
			b, _ := a.Read(i, at, 0)
			for k := range b[:cap(b)] { // spare room is not the arena's
				b[:cap(b)][k] = 0xee
			}
			_ = append(b, 0xee)
		}
	}
	check(t, "no bytes read", a, m)
}

func TestBehindTheLastPart(t *testing.T) {
	a, m := mustNew(t, 10, 2, 3)
	if len(a.All()) != 10 {
		t.Fatalf("All tells %d bytes", len(a.All()))
	}
	fill(t, a, m)
	for n := range 9 { // the last part does not go on there
		if n > 3 {
			refused(t, a, m, 1, 0, n, api.EOVER)
		}
		refused(t, a, m, 2, 0, n, api.EARG)
	}
	if b := a.All(); !bytes.Equal(b[5:], make([]byte, 5)) {
		t.Errorf("behind the last part: %x", b[5:])
	}
	check(t, "behind the last part", a, m)
}

// A Write where part of b has room: none of it is written.
func TestAllOrNothing(t *testing.T) {
	a, m := mustNew(t, 10, 4, 6)
	for at := range 5 {
		for n := 5 - at; n < 20; n++ {
			if e := a.Write(0, at, bytes.Repeat([]byte{1}, n)); e != api.EOVER {
				t.Fatalf("Write(0, %d, %d bytes): %d", at, n, e)
			}
			check(t, "nothing written", a, m)
		}
	}
	for _, n := range []int{65535, 65536, 65537, 1 << 20} {
		if e := a.Write(1, 0, bytes.Repeat([]byte{1}, n)); e != api.EOVER {
			t.Fatalf("Write of %d bytes: %d", n, e)
		}
	}
	check(t, "nothing written", a, m)
}

func TestGreatParts(t *testing.T) {
	for _, budgets := range [][]int{{65536}, {65535, 1}, {1, 65535}, {32768, 32768}} {
		a, m := mustNew(t, 65536, budgets...)
		check(t, "new", a, m)
		fill(t, a, m)
		check(t, "filled", a, m)
		for i, n := range budgets {
			write(t, a, m, i, n-1, []byte{0})
			write(t, a, m, i, n/2, []byte{0, 255}[:min(2, n-n/2)])
			refused(t, a, m, i, 0, n+1, api.EOVER)
			refused(t, a, m, i, 1, n, api.EOVER)
			refused(t, a, m, i, n, 1, api.EOVER)
		}
		check(t, "written over", a, m)
	}
}

// Each value that a byte may have, at each place.
func TestAllBytes(t *testing.T) {
	a, m := mustNew(t, 6, 1, 2, 3)
	for i, p := range m.parts {
		for at := range p {
			for v := range 256 {
				write(t, a, m, i, at, []byte{byte(v)})
				check(t, "a byte", a, m)
			}
		}
	}
}

// What is read was written there last: Writes lie over one another in all ways.
func TestWrittenLast(t *testing.T) {
	for row := range 15 * 15 * 15 { // each is a Write of one of the pieces of a part of 4
		a, m := mustNew(t, 12, 4, 4)
		for k, rest := 0, row; k < 3; k, rest = k+1, rest/15 {
			at, n := piece(rest % 15)
			write(t, a, m, k%2, at, bytes.Repeat([]byte{byte(k + 1)}, n))
			write(t, a, m, 1, at, bytes.Repeat([]byte{byte(k + 9)}, n))
		}
		if !bytes.Equal(a.All(), m.all()) {
			t.Fatalf("row %d: %x, not %x", row, a.All(), m.all())
		}
	}
}

// piece tells one of the fifteen pieces, empty ones too, of four bytes.
func piece(k int) (at, n int) {
	for at = range 5 {
		if k < 5-at {
			return at, k
		}
		k -= 5 - at
	}
	return 0, 0
}

func TestAnySteps(t *testing.T) {
	for seed := range uint32(60) {
		x := seed*7919 + 1
		next := func(n int) int {
			x = x*1664525 + 1013904223
			return int(x>>8) % n
		}
		budgets := make([]int, next(6))
		size := next(4)
		for i := range budgets {
			budgets[i] = next(9)
			size += budgets[i]
		}
		a, m := mustNew(t, size, budgets...)
		for k := range 200 {
			i, at, n := next(len(budgets)+2)-1, next(12)-1, next(10)
			switch {
			case i < 0 || i >= len(budgets):
				refused(t, a, m, i, at, n, api.EARG)
			case at < 0 || at+n > budgets[i]:
				refused(t, a, m, i, at, n, api.EOVER)
			default:
				b := make([]byte, n)
				for j := range b {
					b[j] = byte(next(256))
				}
				write(t, a, m, i, at, b)
				read(t, a, m, i, at, n)
			}
			if k%3 != 0 { // all is asked in between, or it is not
				check(t, "any steps", a, m)
			}
		}
		check(t, "any steps, at their end", a, m)
	}
}

// overwrite writes all over an answer, spare room included.
func overwrite(b []byte) []byte {
	for i := range b[:cap(b)] {
		b[:cap(b)][i] = 0xee
	}
	return append(b, 0xef)
}

func TestAnswersAreNewMemory(t *testing.T) {
	for _, budgets := range [][]int{{4, 0, 6}, {10}, {3}, {0}, nil} {
		a, m := mustNew(t, 10, budgets...)
		fill(t, a, m)
		was := m.all()
		x, y := a.All(), a.All()
		overwrite(x)
		if !bytes.Equal(y, was) {
			t.Fatalf("two answers of All share memory: %x", y)
		}
		check(t, "All was written over", a, m)
		for i, p := range m.parts {
			for at := range len(p) + 1 {
				for n := range len(p) - at + 1 {
					own := slices.Clone(p[at : at+n])
					b, _ := a.Read(i, at, n)
					c, _ := a.Read(i, at, n)
					overwrite(b)
					if !bytes.Equal(c, own) {
						t.Fatalf("two answers of Read share memory: %x", c)
					}
					check(t, "a Read was written over", a, m)
				}
			}
		}
		if !bytes.Equal(y, was) {
			t.Fatalf("All and Read share memory: %x", y)
		}
	}
}

// An answer is what was there then, whatever is written later.
func TestAnswersStay(t *testing.T) {
	a, m := mustNew(t, 10, 4, 6)
	fill(t, a, m)
	was, own := m.all(), slices.Clone(m.parts[1][2:5])
	all := a.All()
	b, _ := a.Read(1, 2, 3)
	write(t, a, m, 0, 0, []byte("wxyz"))
	write(t, a, m, 1, 0, []byte("abcdef"))
	if !bytes.Equal(all, was) || !bytes.Equal(b, own) {
		t.Errorf("answers hang on what comes later: %x, %x", all, b)
	}
	check(t, "written over", a, m)
}

// What is written is neither kept nor changed, spare room included.
func TestWriteLeavesBytes(t *testing.T) {
	room := []byte("abcdefgh")
	a, m := mustNew(t, 10, 4, 6)
	write(t, a, m, 0, 0, room[:4])
	write(t, a, m, 1, 1, room[2:5])
	a.Write(0, 0, room)
	a.Write(2, 0, room[:2])
	a.Write(1, 6, room[:0])
	if string(room) != "abcdefgh" {
		t.Fatalf("what was written is changed: %q", room)
	}
	copy(room, "zzzzzzzz")
	check(t, "what was written is written over", a, m)
	write(t, a, m, 0, 1, []byte("Q"))
	if string(room) != "zzzzzzzz" {
		t.Errorf("what was written is kept: %q", room)
	}
}

// What was read is written, there and elsewhere.
func TestWriteOfWhatWasRead(t *testing.T) {
	a, m := mustNew(t, 12, 4, 6)
	fill(t, a, m)
	b, _ := a.Read(0, 0, 3)
	write(t, a, m, 0, 1, b)
	write(t, a, m, 1, 3, b)
	c := a.All()
	write(t, a, m, 1, 0, c[2:8])
	check(t, "what was read is written", a, m)
}

func TestApart(t *testing.T) {
	a, m := mustNew(t, 10, 4, 6)
	b, n := mustNew(t, 10, 4, 6)
	c, k := mustNew(t, 10, 6, 4)
	write(t, a, m, 0, 0, []byte("abcd"))
	write(t, b, n, 1, 0, []byte("efghij"))
	write(t, c, k, 0, 2, []byte("klmn"))
	check(t, "the one", a, m)
	check(t, "another", b, n)
	check(t, "a third", c, k)
}

func TestSideBySide(t *testing.T) {
	var all sync.WaitGroup
	wrong := make([]bool, 8)
	for i := range wrong {
		all.Go(func() {
			a, e := arena.New(8, i, 8-i)
			for k := range 500 {
				b := []byte{byte(k), byte(k >> 8)}
				if i < 7 {
					e = max(e, a.Write(1, 8-i-2, b))
				}
				got, f := a.Read(1, 0, 8-i)
				if e != api.OK || f != api.OK || i < 7 && !bytes.HasSuffix(got, b) || len(a.All()) != 8 {
					wrong[i] = true
				}
			}
		})
	}
	all.Wait()
	for i, w := range wrong {
		if w {
			t.Errorf("worker %d", i)
		}
	}
}
