package ring_test

import (
	"errors"
	"math"
	"slices"
	"strconv"
	"sync"
	"testing"

	"warrener/ring"
)

// check holds all that a row tells against what waits in it; twice, since telling
// it takes nothing out.
func check[T comparable](t *testing.T, what string, r *ring.Ring[T], most int, waits []T) {
	t.Helper()
	for range 2 {
		if l := r.List(); !slices.Equal(l, waits) {
			t.Fatalf("%s: List tells %v, not %v", what, l, waits)
		}
		if r.Len() != len(waits) || r.Most() != most {
			t.Fatalf("%s: Len %d, Most %d, not %d, %d", what, r.Len(), r.Most(), len(waits), most)
		}
	}
}

func TestExample(t *testing.T) {
	r := ring.New[string](1)
	if !r.Put("a") || r.Put("b") {
		t.Error("New(1): not a alone has room")
	}
	check(t, "New(1), a", r, 1, []string{"a"})
}

func TestNewIsHeldTo(t *testing.T) {
	for _, c := range []struct{ most, want int }{
		{math.MinInt, 1}, {math.MinInt32, 1}, {-4097, 1}, {-4096, 1}, {-2, 1}, {-1, 1}, {0, 1},
		{1, 1}, {2, 2}, {3, 3}, {16, 16}, {1000, 1000}, {4095, 4095}, {4096, 4096},
		{4097, 4096}, {5000, 4096}, {1 << 16, 4096}, {1<<16 + 1, 4096}, {math.MaxInt32, 4096}, {1 << 32, 4096}, {1<<32 + 5, 4096}, {math.MaxInt, 4096},
	} {
		r := ring.New[int](c.most)
		var waits []int
		check(t, "a new one", r, c.want, waits)
		for i := range c.want {
			if !r.Put(i) {
				t.Fatalf("New(%d): no room for number %d", c.most, i)
			}
			waits = append(waits, i)
		}
		check(t, "a full one", r, c.want, waits)
		if r.Put(c.want) {
			t.Fatalf("New(%d): room for more than %d", c.most, c.want)
		}
		check(t, "a full one, one more put", r, c.want, waits)
	}
}

func TestPutIsLast(t *testing.T) {
	r := ring.New[string](5)
	waits := []string{}
	for _, x := range []string{"b", "a", "", "c", "a"} { // like ones, too
		if !r.Put(x) {
			t.Fatalf("Put %q: false", x)
		}
		waits = append(waits, x)
		check(t, "after Put "+x, r, 5, waits)
	}
}

func TestPutWhereMostWait(t *testing.T) {
	for _, most := range []int{1, 2, 3, 7, 4096} {
		r := ring.New[int](most)
		var waits []int
		for i := range most {
			r.Put(i)
			waits = append(waits, i)
		}
		for i := range 3 {
			if r.Put(-1 - i) {
				t.Fatalf("room for more than %d", most)
			}
			check(t, "refused", r, most, waits)
		}
		for i := range most {
			if x, ok := r.Take(); !ok || x != i {
				t.Fatalf("of %d, after refused ones, Take %d: %d, %v", most, i, x, ok)
			}
		}
		check(t, "empty again", r, most, nil)
	}
}

func TestTakeIsTheFirst(t *testing.T) {
	r := ring.New[string](4)
	waits := []string{"d", "b", "d", "a"}
	for _, x := range waits {
		r.Put(x)
	}
	for len(waits) > 0 {
		if x, ok := r.Take(); !ok || x != waits[0] {
			t.Fatalf("Take: %q, %v, not %q", x, ok, waits[0])
		}
		waits = waits[1:]
		check(t, "after Take", r, 4, waits)
	}
}

func TestTakeOfNone(t *testing.T) {
	r := ring.New[string](2)
	for round := range 4 {
		for range 3 {
			if x, ok := r.Take(); ok || x != "" {
				t.Fatalf("round %d, Take of none: %q, %v", round, x, ok)
			}
			check(t, "Take of none", r, 2, nil)
		}
		for i := range round { // full from round 2 on; one too many in round 3
			r.Put(strconv.Itoa(i))
		}
		for i := range min(round, 2) {
			if x, ok := r.Take(); !ok || x != strconv.Itoa(i) {
				t.Fatalf("round %d, Take %d: %q, %v", round, i, x, ok)
			}
		}
	}
}

// One is taken, one is put: the row goes round its room again and again.
func TestMorePutsThanRoom(t *testing.T) {
	for _, most := range []int{1, 2, 3, 16, 4096} {
		for _, held := range []int{1, (most + 1) / 2, most} {
			r := ring.New[int](most)
			for i := range 3*most + 50 {
				if i >= held {
					if x, ok := r.Take(); !ok || x != i-held {
						t.Fatalf("%d of %d wait, Take ahead of Put %d: %d, %v", held, most, i, x, ok)
					}
				}
				if !r.Put(i) {
					t.Fatalf("%d of %d wait, Put %d: false", held, most, i)
				}
				if r.Len() != min(i+1, held) {
					t.Fatalf("%d of %d wait, Put %d: Len %d", held, most, i, r.Len())
				}
			}
			l := r.List()
			for i, x := range l {
				if x != 3*most+50-held+i {
					t.Fatalf("%d of %d wait, List: %d at %d", held, most, x, i)
				}
			}
			if len(l) != held {
				t.Fatalf("%d of %d wait: List tells %d", held, most, len(l))
			}
		}
	}
}

// step does one thing to both the row and to what should wait in it.
func step(t *testing.T, r *ring.Ring[int], most int, waits []int, put bool, x int) []int {
	t.Helper()
	if put {
		room := len(waits) < most
		if r.Put(x) != room {
			t.Fatalf("of %d, %d wait: Put is not %v", most, len(waits), room)
		}
		if room {
			waits = append(slices.Clone(waits), x)
		}
		return waits
	}
	got, ok := r.Take()
	if len(waits) == 0 {
		if ok || got != 0 {
			t.Fatalf("of %d, none wait: Take %d, %v", most, got, ok)
		}
		return waits
	}
	if !ok || got != waits[0] {
		t.Fatalf("of %d, %d wait: Take %d, %v, not %d", most, len(waits), got, ok, waits[0])
	}
	return waits[1:]
}

func TestAnySteps(t *testing.T) {
	for most := 1; most <= 9; most++ {
		for seed := range uint32(20) {
			r := ring.New[int](most)
			var waits []int
			x := seed*7919 + uint32(most)
			for i := range 300 {
				x = x*1664525 + 1013904223
				often := 1 + uint32(i/60)%3 // for a while more come, then more go
				waits = step(t, r, most, waits, x>>24%4 < often, int(x>>8))
				if i%3 != 0 { // List is asked in between, or it is not
					check(t, "any steps", r, most, waits)
				}
			}
			check(t, "any steps, at their end", r, most, waits)
		}
	}
}

// All rows of so many steps, in which each is a Put, a Take or a List.
func TestAllShortRows(t *testing.T) {
	for most := 1; most <= 3; most++ {
		for row := range 3 * 3 * 3 * 3 * 3 * 3 * 3 * 3 {
			r := ring.New[int](most)
			var waits []int
			for i, rest := 0, row; i < 8; i, rest = i+1, rest/3 {
				if rest%3 < 2 {
					waits = step(t, r, most, waits, rest%3 == 0, i+1)
				} else if l := r.List(); !slices.Equal(l, waits) {
					t.Fatalf("of %d, row %d, step %d: List tells %v, not %v", most, row, i, l, waits)
				}
			}
			check(t, "a short row", r, most, waits)
		}
	}
}

func TestListIsNewMemory(t *testing.T) {
	for n := range 6 {
		for _, gone := range []int{0, 1, 4} { // the row does not begin where its room does
			r := ring.New[int](5)
			for range gone {
				r.Put(-1)
				r.Take()
			}
			var waits []int
			for i := range n {
				r.Put(i + 1)
				waits = append(waits, i+1)
			}
			a, b := r.List(), r.List()
			for i := range a[:cap(a)] {
				a[:cap(a)][i] = -7
			}
			a = append(a, -8)
			if !slices.Equal(b, waits) {
				t.Fatalf("%d wait: two Lists share memory: %v", n, b)
			}
			check(t, "a List was written over", r, 5, waits)
			r.Take()
			r.Put(-9)
			r.Put(-10)
			if !slices.Equal(b, waits) {
				t.Fatalf("%d wait: a List hangs on what comes later: %v", n, b)
			}
			if len(a) != n+1 || a[n] != -8 {
				t.Fatalf("%d wait: a List's spare room was written: %v", n, a)
			}
		}
	}
}

// kinds puts, lists and takes the items, which are told apart by same.
func kinds[T any](t *testing.T, name string, same func(a, b T) bool, items ...T) {
	t.Helper()
	var zero T
	r := ring.New[T](len(items))
	for round := range 3 {
		if x, ok := r.Take(); ok || !same(x, zero) {
			t.Errorf("%s, round %d: Take of none is not zero and false", name, round)
		}
		if l := r.List(); len(l) != 0 || r.Len() != 0 {
			t.Errorf("%s, round %d: List of none tells %d", name, round, len(l))
		}
		for i, x := range items {
			if !r.Put(x) || r.Len() != i+1 {
				t.Errorf("%s, round %d: Put %d", name, round, i)
			}
		}
		if r.Put(items[0]) {
			t.Errorf("%s, round %d: room for more than most", name, round)
		}
		for range 2 {
			if l := r.List(); !slices.EqualFunc(l, items, same) {
				t.Errorf("%s, round %d: List tells others", name, round)
			}
		}
		for i, want := range items {
			if x, ok := r.Take(); !ok || !same(x, want) {
				t.Errorf("%s, round %d: Take %d is another", name, round, i)
			}
		}
	}
}

func equal[T comparable](a, b T) bool { return a == b }

func TestKinds(t *testing.T) {
	type pair struct {
		name string
		n    int
	}
	one, other := 1, 1
	wrong := errors.New("wrong")
	kinds(t, "int", equal[int], 0, -1, 0, math.MaxInt, math.MinInt)
	kinds(t, "byte", equal[byte], 0, 255, 7)
	kinds(t, "bool", equal[bool], false, true, false)
	kinds(t, "string", equal[string], "", "a", "", "a\x00b")
	kinds(t, "struct", equal[pair], pair{}, pair{"a", 1}, pair{"", 2})
	kinds(t, "nothing in it", equal[struct{}], struct{}{}, struct{}{}, struct{}{})
	kinds(t, "array", equal[[3]int], [3]int{}, [3]int{1, 2, 3})
	kinds(t, "pointer", equal[*int], &one, nil, &other, &one)
	kinds[any](t, "any", equal[any], nil, 1, "a", 1.5, pair{"b", 2}, nil)
	kinds(t, "error", equal[error], nil, wrong, nil)
	kinds(t, "channel", equal[chan int], nil, make(chan int), make(chan int, 1))
	kinds(t, "another row", equal[*ring.Ring[int]], ring.New[int](1), nil, ring.New[int](1))
	kinds(t, "float", func(a, b float64) bool { return math.Float64bits(a) == math.Float64bits(b) }, math.NaN(), 0, math.Copysign(0, -1), math.Inf(1))
}

// Above 64 kB: more than what a channel holds itself.
func TestGreatItems(t *testing.T) {
	type great [1<<16 + 1]byte
	a, b := new(great), new(great)
	a[0], b[len(b)-1] = 1, 2
	kinds(t, "great", equal[great], *a, great{}, *b)
}

func TestListsAsItems(t *testing.T) {
	kinds(t, "bytes", func(a, b []byte) bool { return slices.Equal(a, b) }, nil, []byte("ab"), []byte{}, []byte{0})
	kinds(t, "maps", func(a, b map[string]int) bool { return len(a) == len(b) && a["a"] == b["a"] }, nil, map[string]int{"a": 1}, map[string]int{})
	kinds(t, "functions", func(a, b func() int) bool { return (a == nil) == (b == nil) && (a == nil || a() == b()) }, nil, func() int { return 1 }, func() int { return 2 })
	r := ring.New[[]int](3)
	for i, l := range [][]int{nil, {}, {}} { // each is one, and waits as any other
		if !r.Put(l) || r.Len() != i+1 {
			t.Errorf("a list of none, number %d: Len %d", i, r.Len())
		}
	}
	for i := range 3 {
		if x, ok := r.Take(); !ok || len(x) != 0 {
			t.Errorf("a list of none, number %d: %v, %v", i, x, ok)
		}
	}
}

// What waits is what was put: not what the caller's variable, or an answer, has later.
func TestItemsAreValues(t *testing.T) {
	r := ring.New[[2]int](2)
	x := [2]int{1, 2}
	r.Put(x)
	x[0] = 9
	r.Put(x)
	x[1] = 9
	l := r.List()
	l[0][1], l[1][1] = 8, 8
	check(t, "written over", r, 2, [][2]int{{1, 2}, {9, 2}})
	y, _ := r.Take()
	y[0] = 7
	check(t, "written over", r, 2, [][2]int{{9, 2}})
}

// Put neither changes a list's items nor its spare room; nor do Take and List.
func TestLeavesItems(t *testing.T) {
	room := []byte("abcdef")
	r := ring.New[[]byte](2)
	r.Put(room[:2])
	r.Put(room[3:4])
	r.Put(room)
	r.List()
	r.Take()
	r.List()
	r.Take()
	if string(room) != "abcdef" {
		t.Errorf("an item was changed: %q", room)
	}
}

func TestApart(t *testing.T) {
	a, b := ring.New[int](2), ring.New[int](3)
	a.Put(1)
	b.Put(2)
	a.Put(3)
	a.Put(4)
	check(t, "the one", a, 2, []int{1, 3})
	check(t, "the other", b, 3, []int{2})
	b.Take()
	check(t, "the one, the other was emptied", a, 2, []int{1, 3})
}

func TestSideBySide(t *testing.T) {
	var all sync.WaitGroup
	wrong := make([]bool, 8)
	for i := range wrong {
		all.Go(func() {
			r := ring.New[int](i + 1)
			for k := range 500 {
				r.Put(k)
				l := r.List()
				if x, ok := r.Take(); !ok || x != k || len(l) != 1 || l[0] != k {
					wrong[i] = true
				}
			}
		})
	}
	all.Wait()
	for i, w := range wrong {
		if w {
			t.Errorf("worker %d", i)
		}
	}
}
