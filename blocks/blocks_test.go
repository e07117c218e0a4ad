package blocks_test

import (
	"math"
	"slices"
	"sync"
	"testing"

	"warrener/api"
	"warrener/blocks"
)

// model is what should be there: the blocks that are given out, in no order, each
// looked for one by one.
type model struct {
	all int
	out []int
}

// least are the n least free ones, or all that are free, if there are fewer.
func (m *model) least(n int) []int {
	var l []int
	for i := 0; i < m.all && len(l) < n; i++ {
		if !slices.Contains(m.out, i) {
			l = append(l, i)
		}
	}
	return l
}

// mayGive tells whether all of l are given out, and none of them twice in l.
func (m *model) mayGive(l []int) bool {
	for k, i := range l {
		if !slices.Contains(m.out, i) || slices.Contains(l[:k], i) {
			return false
		}
	}
	return true
}

func (m *model) rising() []int { return slices.Sorted(slices.Values(m.out)) }

// wide are numbers far from any block, and such that wrap round.
func wide() []int {
	return []int{math.MinInt, math.MinInt + 1, math.MinInt + 32, math.MinInt32, -1 << 32, -65536, -2048, -32, -2, -1,
		2049, 4096, 65536, math.MaxInt32, 1 << 32, 1<<32 + 1, 1 << 62, math.MaxInt - 31, math.MaxInt - 1, math.MaxInt}
}

// mustNew are so many blocks, all free, and what should be there.
func mustNew(t *testing.T, n int) (*blocks.Blocks, *model) {
	t.Helper()
	x, m := blocks.New(n*api.Block), &model{all: n}
	check(t, "new", x, m)
	return x, m
}

// check holds all that is told against what should be there; twice, since telling it
// changes nothing.
func check(t *testing.T, what string, x *blocks.Blocks, m *model) {
	t.Helper()
	for range 2 {
		if x.All() != m.all {
			t.Fatalf("%s: All %d, not %d", what, x.All(), m.all)
		}
		if free := m.all - len(m.out); x.Free() != free {
			t.Fatalf("%s: Free %d, not %d", what, x.Free(), free)
		}
		if l := x.List(); !slices.Equal(l, m.rising()) {
			t.Fatalf("%s: List tells %v, not %v", what, l, m.rising())
		}
	}
}

// take takes n, and holds the answer and all that is told then against what should be.
func take(t *testing.T, x *blocks.Blocks, m *model, n int) []int {
	t.Helper()
	e := api.OK
	var want []int
	switch {
	case n < 0:
		e = api.EARG
	case n > m.all-len(m.out):
		e = api.EFULL
	default:
		want = m.least(n)
	}
	l, got := x.Take(n)
	if got != e || !slices.Equal(l, want) {
		t.Fatalf("Take(%d) of %d, %v out: %v, %d, not %v, %d", n, m.all, m.rising(), l, got, want, e)
	}
	m.out = append(m.out, want...)
	check(t, "taken", x, m)
	return l
}

// give gives l, and holds the answer and all that is told then against what should be.
func give(t *testing.T, x *blocks.Blocks, m *model, l ...int) {
	t.Helper()
	e := api.EARG
	if m.mayGive(l) {
		e = api.OK
	}
	if got := x.Give(l); got != e {
		t.Fatalf("Give(%v) of %d, %v out: %d, not %d", l, m.all, m.rising(), got, e)
	}
	if e == api.OK {
		m.out = slices.DeleteFunc(m.out, func(i int) bool { return slices.Contains(l, i) })
	}
	check(t, "given", x, m)
}

// wantGiven holds what is given out against a list that is written out.
func wantGiven(t *testing.T, x *blocks.Blocks, free int, l ...int) {
	t.Helper()
	if got := x.List(); !slices.Equal(got, l) || x.Free() != free {
		t.Fatalf("%v are given out, %d free, not %v, %d", got, x.Free(), l, free)
	}
}

// some are the numbers from one on to the one ahead of another.
func some(from, to int) []int {
	var l []int
	for i := from; i < to; i++ {
		l = append(l, i)
	}
	return l
}

func TestExamples(t *testing.T) {
	x := blocks.New(100)
	if x.All() != 3 || x.Free() != 3 {
		t.Errorf("New(100): %d, %d free", x.All(), x.Free())
	}
	if l, e := x.Take(2); e != api.OK || !slices.Equal(l, []int{0, 1}) {
		t.Errorf("Take(2): %v, %d", l, e)
	}
	if n := blocks.Need(33); n != 2 {
		t.Errorf("Need(33): %d", n)
	}
}

func TestNew(t *testing.T) {
	for _, c := range [][2]int{
		{0, 0}, {1, 0}, {31, 0}, {32, 1}, {33, 1}, {63, 1}, {64, 2}, {65, 2}, {95, 2}, {96, 3}, {100, 3}, {1023, 31}, {1024, 32},
		{65503, 2046}, {65504, 2047}, {65505, 2047}, {65535, 2047}, {65536, 2048}, {65537, 2048}, {65567, 2048}, {65568, 2048}, {65600, 2048},
		{1 << 17, 2048}, {1 << 20, 2048}, {math.MaxInt32, 2048}, {1 << 32, 2048}, {1<<32 + 64, 2048}, {1 << 62, 2048}, {math.MaxInt - 1, 2048}, {math.MaxInt, 2048},
		{-1, 0}, {-31, 0}, {-32, 0}, {-33, 0}, {-64, 0}, {-65536, 0}, {-65537, 0}, {math.MinInt32, 0}, {-1 << 32, 0}, {math.MinInt + 1, 0}, {math.MinInt, 0},
	} {
		x := blocks.New(c[0])
		if x == nil {
			t.Fatalf("New(%d) makes none", c[0])
		}
		m := &model{all: c[1]}
		check(t, "new", x, m)
		take(t, x, m, c[1]+1)
		take(t, x, m, c[1])
		take(t, x, m, 1)
	}
}

// No size of a pool has a block that is not whole, or one fewer than it has room for.
func TestNewOfAllSizes(t *testing.T) {
	for n := range api.MaxPool + 3*api.Block {
		x := blocks.New(n)
		k := x.All()
		if k != x.Free() || len(x.List()) != 0 {
			t.Fatalf("New(%d): %d, %d free, %v out", n, k, x.Free(), x.List())
		}
		if k*api.Block > n || k > 2048 || k < 2048 && (k+1)*api.Block <= n {
			t.Fatalf("New(%d): %d blocks", n, k)
		}
	}
}

func TestNeed(t *testing.T) {
	for _, c := range [][2]int{
		{0, 0}, {1, 1}, {2, 1}, {31, 1}, {32, 1}, {33, 2}, {63, 2}, {64, 2}, {65, 3}, {96, 3}, {97, 4}, {100, 4},
		{65504, 2047}, {65505, 2048}, {65535, 2048}, {65536, 2048}, {65537, 2049}, {1 << 20, 1 << 15}, {1<<20 + 1, 1<<15 + 1},
		{math.MaxInt32, 1 << 26}, {1 << 31, 1 << 26}, {1<<31 + 1, 1<<26 + 1}, {1 << 32, 1 << 27}, {1<<32 + 1, 1<<27 + 1}, {1 << 62, 1 << 57}, {1<<62 + 1, 1<<57 + 1},
		{math.MaxInt, 1 << 58}, {math.MaxInt - 1, 1 << 58}, {math.MaxInt - 30, 1 << 58}, {math.MaxInt - 31, 1<<58 - 1}, {math.MaxInt - 32, 1<<58 - 1},
		{-1, 0}, {-2, 0}, {-31, 0}, {-32, 0}, {-33, 0}, {-64, 0}, {-65536, 0}, {math.MinInt32, 0}, {math.MinInt32 - 1, 0}, {-1 << 32, 0}, {math.MinInt + 32, 0}, {math.MinInt + 1, 0}, {math.MinInt, 0},
	} {
		if n := blocks.Need(c[0]); n != c[1] {
			t.Errorf("Need(%d): %d, not %d", c[0], n, c[1])
		}
	}
}

// So many bytes have room in the blocks, and one block fewer has none for them.
func TestNeedOfAllSizes(t *testing.T) {
	for n := 1; n < 3*api.MaxPool; n++ {
		if k := blocks.Need(n); k*api.Block < n || (k-1)*api.Block >= n {
			t.Fatalf("Need(%d): %d", n, k)
		}
	}
}

func TestTake(t *testing.T) {
	x, m := mustNew(t, 6)
	take(t, x, m, 0)
	wantGiven(t, x, 6)
	take(t, x, m, 2)
	wantGiven(t, x, 4, 0, 1)
	take(t, x, m, 0)
	wantGiven(t, x, 4, 0, 1)
	take(t, x, m, 1)
	wantGiven(t, x, 3, 0, 1, 2)
	take(t, x, m, 4)
	wantGiven(t, x, 3, 0, 1, 2)
	take(t, x, m, 3) // just as many as are free
	wantGiven(t, x, 0, 0, 1, 2, 3, 4, 5)
	take(t, x, m, 1)
	take(t, x, m, 0)
	wantGiven(t, x, 0, 0, 1, 2, 3, 4, 5)
}

// The free ones lie between those that are given out.
func TestTakeBetween(t *testing.T) {
	for n := range 5 {
		x, m := mustNew(t, 7)
		take(t, x, m, 7)
		give(t, x, m, 4, 1, 5, 2)
		wantGiven(t, x, 4, 0, 3, 6)
		l := take(t, x, m, n)
		if !slices.Equal(l, []int{1, 2, 4, 5}[:n]) {
			t.Errorf("Take(%d): %v", n, l)
		}
	}
	x, m := mustNew(t, 7)
	take(t, x, m, 6)
	give(t, x, m, 3)
	give(t, x, m, 1)
	for _, want := range []int{1, 3, 6} { // one by one: the least each time, not the one that was given last or longest ago
		if l := take(t, x, m, 1); !slices.Equal(l, []int{want}) {
			t.Errorf("Take(1): %v, not %d", l, want)
		}
	}
}

func TestTakeRefused(t *testing.T) {
	for _, out := range []int{0, 1, 4, 5} {
		x, m := mustNew(t, 5)
		take(t, x, m, out)
		for _, n := range append(wide(), 5-out+1, 5-out+2, 6, 7, 2048) {
			l, e := x.Take(n)
			if n < 0 && e != api.EARG || n > 0 && e != api.EFULL || len(l) != 0 {
				t.Fatalf("Take(%d) with %d free: %v, %d", n, 5-out, l, e)
			}
			wantGiven(t, x, 5-out, some(0, out)...)
		}
		take(t, x, m, 5-out)
	}
}

func TestOfNoBlocks(t *testing.T) {
	for _, bytes := range []int{0, 31, -1, -32, -33, math.MinInt} {
		x, m := blocks.New(bytes), &model{}
		for _, n := range append(wide(), 0, 1) {
			take(t, x, m, n)
			give(t, x, m, n)
		}
		give(t, x, m)
		wantGiven(t, x, 0)
	}
}

func TestGive(t *testing.T) {
	x, m := mustNew(t, 6)
	take(t, x, m, 6)
	give(t, x, m)
	wantGiven(t, x, 0, 0, 1, 2, 3, 4, 5)
	if e := x.Give([]int{}); e != api.OK {
		t.Errorf("Give of an empty list: %d", e)
	}
	give(t, x, m, 3, 1) // out of their order
	wantGiven(t, x, 2, 0, 2, 4, 5)
	give(t, x, m, 0, 5)
	wantGiven(t, x, 4, 2, 4)
	give(t, x, m, 4)
	wantGiven(t, x, 5, 2)
	give(t, x, m, 2)
	wantGiven(t, x, 6)
	give(t, x, m)
	take(t, x, m, 6)
	give(t, x, m, 5, 0, 2, 1, 4, 3)
	wantGiven(t, x, 6)
	take(t, x, m, 6)
	give(t, x, m, some(0, 6)...)
	wantGiven(t, x, 6)
	take(t, x, m, 3)
	wantGiven(t, x, 3, 0, 1, 2)
}

// What is taken behind a Give are the least free ones again, whoever had them.
func TestTakeBehindGive(t *testing.T) {
	x, m := mustNew(t, 5)
	take(t, x, m, 2)
	take(t, x, m, 2)
	give(t, x, m, 0, 1)
	if l := take(t, x, m, 3); !slices.Equal(l, []int{0, 1, 4}) {
		t.Errorf("Take(3): %v", l)
	}
	give(t, x, m, 4, 2, 0) // of more than one Take
	if l := take(t, x, m, 2); !slices.Equal(l, []int{0, 2}) {
		t.Errorf("Take(2): %v", l)
	}
	for range 3000 { // they do not wear out
		give(t, x, m, 3)
		take(t, x, m, 1)
	}
	wantGiven(t, x, 1, 0, 1, 2, 3)
}

func TestGiveRefused(t *testing.T) {
	for _, free := range [][]int{{}, {2}, {0, 4}, {1, 3}} {
		x, m := mustNew(t, 5)
		take(t, x, m, 5)
		give(t, x, m, free...)
		was := m.rising()
		a, b := was[0], was[len(was)-1]
		wrong := append(wide(), 5, 6, 31, 32) // those that are none, and those that are not given out
		wrong = append(wrong, free...)
		for _, i := range wrong {
			for _, l := range [][]int{{i}, {i, a}, {a, i}, {b, i, a}, {i, b, a}, {b, a, i}, {i, i}, append(slices.Clone(was), i), append([]int{i}, was...)} {
				if e := x.Give(l); e != api.EARG {
					t.Fatalf("Give(%v) of 5, %v out: %d, not EARG", l, was, e)
				}
				wantGiven(t, x, len(free), was...)
			}
		}
		for _, i := range was { // twice in l
			for _, l := range [][]int{{i, i}, {i, i, i}, {i, a, b, i}, append(slices.Clone(was), i), append([]int{i}, was...), slices.Concat(was, was), slices.Repeat([]int{i}, 256), slices.Repeat([]int{i}, 1<<16)} {
				if e := x.Give(l); e != api.EARG {
					t.Fatalf("Give of %d twice, %v out: %d, not EARG", i, was, e)
				}
				wantGiven(t, x, len(free), was...)
			}
		}
		give(t, x, m, was...)
		wantGiven(t, x, 5)
		for i := range 5 { // once more
			give(t, x, m, i)
		}
		take(t, x, m, 5)
	}
}

// All lists of up to four numbers from one below the least block to one above the
// greatest, and all Takes, at all that may be given out of four blocks.
func TestAllStates(t *testing.T) {
	for state := range 16 {
		var free []int
		for i := range 4 {
			if state>>i&1 == 0 {
				free = append(free, i)
			}
		}
		made := func() (*blocks.Blocks, *model) {
			x, m := mustNew(t, 4)
			take(t, x, m, 4)
			give(t, x, m, free...)
			return x, m
		}
		for n := -2; n < 7; n++ {
			x, m := made()
			take(t, x, m, n)
			take(t, x, m, 1)
		}
		for size := range 5 {
			for row := range power(6, size) {
				var l []int
				for range size {
					l = append(l, row%6-1)
					row /= 6
				}
				x, m := made()
				give(t, x, m, l...)
			}
		}
	}
}

func power(n, k int) int {
	p := 1
	for range k {
		p *= n
	}
	return p
}

// All blocks of the greatest pool.
func TestGreatPool(t *testing.T) {
	x, m := mustNew(t, 2048)
	take(t, x, m, 2049)
	take(t, x, m, 2048)
	take(t, x, m, 1)
	give(t, x, m, 2048)
	give(t, x, m, 2047)
	if l := take(t, x, m, 1); !slices.Equal(l, []int{2047}) {
		t.Errorf("Take(1): %v", l)
	}
	l := some(0, 2048)
	slices.Reverse(l)
	give(t, x, m, append(l, 0)...)
	give(t, x, m, l...)
	wantGiven(t, x, 2048)
	take(t, x, m, 2047)
	wantGiven(t, x, 1, some(0, 2047)...)
}

func TestAnySteps(t *testing.T) {
	for seed := range uint32(80) {
		x := seed*7919 + 1
		next := func(n int) int {
			x = x*1664525 + 1013904223
			return int(x>>8) % n
		}
		n := []int{0, 1, 2, 7, 33, 64, 65, 130}[seed%8]
		b, m := mustNew(t, n)
		for range 250 {
			if next(2) == 0 {
				take(t, b, m, next(2+n/3)-1)
				continue
			}
			var l []int
			for _, i := range m.out { // some that are given out, in any order
				if next(3) == 0 {
					l = slices.Insert(l, next(len(l)+1), i)
				}
			}
			if next(3) == 0 { // and one more, that may be given out, or twice in l, or none
				l = slices.Insert(l, next(len(l)+1), next(n+3)-1)
			}
			give(t, b, m, l...)
		}
	}
}

// overwrite writes all over an answer, spare room included.
func overwrite(l []int) {
	l = l[:cap(l)]
	for k := range l {
		l[k] = -7
	}
	_ = append(l, -8)
}

func TestAnswersAreNewMemory(t *testing.T) {
	for _, n := range []int{0, 1, 2, 3, 4, 5} {
		x, m := mustNew(t, 9)
		first := take(t, x, m, n)
		was := slices.Clone(first)
		second := take(t, x, m, 3)
		list, same := x.List(), x.List()
		overwrite(second)
		overwrite(list)
		if !slices.Equal(first, was) || !slices.Equal(same, m.rising()) {
			t.Fatalf("answers share memory: %v, %v", first, same)
		}
		check(t, "a Take and a List were written over", x, m)
		overwrite(first)
		if !slices.Equal(same, m.rising()) {
			t.Fatalf("Take and List share memory: %v", same)
		}
		overwrite(same)
		check(t, "all answers were written over", x, m)
		take(t, x, m, 10)
		give(t, x, m, n, 0)
		take(t, x, m, 2)
	}
}

// An answer is what was so then, whatever comes later.
func TestAnswersStay(t *testing.T) {
	x, m := mustNew(t, 6)
	l := take(t, x, m, 3)
	list := x.List()
	give(t, x, m, 1, 0)
	take(t, x, m, 4)
	give(t, x, m, 5, 2, 3)
	if !slices.Equal(l, []int{0, 1, 2}) || !slices.Equal(list, []int{0, 1, 2}) {
		t.Errorf("answers hang on what comes later: %v, %v", l, list)
	}
}

// What is given is neither kept nor changed, spare room included.
func TestGiveLeavesList(t *testing.T) {
	x, m := mustNew(t, 8)
	take(t, x, m, 8)
	room := []int{5, 2, 7, 2, 99, 0}
	for _, n := range []int{4, 5, 6, 3, 3, 0} { // refused thrice, taken back, refused, nothing
		give(t, x, m, room[:n]...)
		if !slices.Equal(room, []int{5, 2, 7, 2, 99, 0}) {
			t.Fatalf("what was given is changed: %v", room)
		}
	}
	for k := range room {
		room[k] = k
	}
	check(t, "what was given is written over", x, m)
	take(t, x, m, 2)
	if !slices.Equal(room, []int{0, 1, 2, 3, 4, 5}) {
		t.Errorf("what was given is kept: %v", room)
	}
}

// What was answered is given as it is.
func TestGiveOfAnswers(t *testing.T) {
	x, m := mustNew(t, 8)
	l := take(t, x, m, 5)
	give(t, x, m, l...)
	wantGiven(t, x, 8)
	give(t, x, m, l...)
	take(t, x, m, 8)
	give(t, x, m, x.List()...)
	wantGiven(t, x, 8)
	if l, e := x.Take(-1); e != api.EARG || x.Give(l) != api.OK {
		t.Errorf("Give of what a refused Take answered")
	}
}

func TestApart(t *testing.T) {
	a, m := mustNew(t, 4)
	b, n := mustNew(t, 4)
	take(t, a, m, 3)
	check(t, "another", b, n)
	take(t, b, n, 1)
	give(t, a, m, 0, 2)
	give(t, b, n, 1)
	take(t, a, m, 2)
	check(t, "another", b, n)
	check(t, "the one", a, m)
}

func TestSideBySide(t *testing.T) {
	var all sync.WaitGroup
	wrong := make([]bool, 8)
	for i := range wrong {
		all.Go(func() {
			x := blocks.New(i * 100)
			for range 300 {
				l, e := x.Take(x.All())
				if e != api.OK || !slices.Equal(l, some(0, i*100/32)) || x.Give(l) != api.OK || len(x.List()) != 0 || blocks.Need(i*32+1) != i+1 {
					wrong[i] = true
				}
			}
		})
	}
	all.Wait()
	for i, w := range wrong {
		if w {
			t.Errorf("worker %d", i)
		}
	}
}
