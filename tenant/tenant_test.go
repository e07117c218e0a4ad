package tenant_test

import (
	"bytes"
	"math"
	"math/big"
	"math/rand"
	"reflect"
	"slices"
	"sync"
	"testing"

	"warrener/api"
	"warrener/tenant"
)

// pattern is n bytes, another row for each n.
func pattern(n int) []byte {
	b := make([]byte, n)
	x := uint32(n) + 1
	for i := range b {
		x = x*1664525 + 1013904223
		b[i] = byte(x >> 24)
	}
	return b
}

// good is one that may be.
func good(id int) tenant.Tenant {
	return tenant.Tenant{ID: id, Key: []byte("k"), Rights: 3, Budget: 96, Quota: 9, Every: 9, Queue: 4, Series: 4, Retain: 9}
}

// with is one that may be, of that budget.
func with(id, budget int) tenant.Tenant {
	t := good(id)
	t.Budget = budget
	return t
}

// some are n that may be side by side, of that budget each, their IDs far apart.
func some(n, budget int) []tenant.Tenant {
	var l []tenant.Tenant
	for i := range n {
		l = append(l, with(i*7919%65536, budget))
	}
	return l
}

// field is one number of a tenant, its least and its greatest, written out.
type field struct {
	name        string
	at          func(t *tenant.Tenant) *int
	least, most int
}

func fields() []field {
	return []field{
		{"ID", func(t *tenant.Tenant) *int { return &t.ID }, 0, 65535},
		{"Rights", func(t *tenant.Tenant) *int { return &t.Rights }, 0, 3},
		{"Budget", func(t *tenant.Tenant) *int { return &t.Budget }, 0, 65536},
		{"Quota", func(t *tenant.Tenant) *int { return &t.Quota }, 0, 1048576},
		{"Every", func(t *tenant.Tenant) *int { return &t.Every }, 1, 1048576},
		{"Queue", func(t *tenant.Tenant) *int { return &t.Queue }, 1, 16},
		{"Series", func(t *tenant.Tenant) *int { return &t.Series }, 1, 16},
		{"Retain", func(t *tenant.Tenant) *int { return &t.Retain }, 1, 64},
	}
}

// numbers are such as stand about the edges of all fields, and far beyond; many of them
// are well within in their lowest bits.
func numbers() []int {
	l := []int{math.MinInt, math.MinInt + 1, math.MinInt + 4, math.MinInt32, -1<<32 + 4, math.MaxInt32, math.MaxUint32, 1<<32 + 1, math.MaxInt - 1, math.MaxInt}
	for n := -70; n <= 300; n++ {
		l = append(l, n)
	}
	for bit := 8; bit < 63; bit++ {
		for _, off := range []int{-2, -1, 0, 1, 2, 4} {
			l = append(l, 1<<bit+off, -1<<bit+off)
		}
	}
	return l
}

// least has the least number in each field, greatest the greatest.
func least() tenant.Tenant {
	return tenant.Tenant{ID: 0, Key: []byte{0}, Rights: 0, Budget: 0, Quota: 0, Every: 1, Queue: 1, Series: 1, Retain: 1}
}

func greatest() tenant.Tenant {
	return tenant.Tenant{ID: 65535, Key: bytes.Repeat([]byte{255}, 64), Rights: 3, Budget: 65536, Quota: 1048576, Every: 1048576, Queue: 16, Series: 16, Retain: 64}
}

// may is what Good should tell, in another way than the program's own.
func may(t tenant.Tenant) bool {
	if len(t.Key) == 0 || len(t.Key) > 64 {
		return false
	}
	for _, f := range fields() {
		if n := *f.at(&t); n < f.least || n > f.most {
			return false
		}
	}
	return true
}

// mayAll is what All should tell, in another way than the program's own.
func mayAll(l []tenant.Tenant, pool int) api.Errno {
	if len(l) == 0 || len(l) > 64 || pool < 0 || pool > 65536 {
		return 1
	}
	ids := map[int]int{}
	sum := new(big.Int)
	for _, t := range l {
		if !may(t) {
			return 1
		}
		ids[t.ID]++
		sum.Add(sum, big.NewInt(int64(t.Budget)))
	}
	if len(ids) != len(l) || sum.Cmp(big.NewInt(int64(pool))) > 0 {
		return 1
	}
	return 0
}

// isGood holds what Good tells, and what All tells of it alone.
func isGood(t *testing.T, x tenant.Tenant, want bool, what string) {
	t.Helper()
	if got := tenant.Good(x); got != want {
		t.Fatalf("Good of %s, %d bytes of key, %+v: %v", what, len(x.Key), x, got)
	}
	if e := tenant.All([]tenant.Tenant{x}, 65536); (e == api.OK) != want || e != api.OK && e != api.EARG {
		t.Fatalf("All of %s, %d bytes of key, %+v: %d", what, len(x.Key), x, e)
	}
}

// isAll holds what All tells.
func isAll(t *testing.T, l []tenant.Tenant, pool int, want api.Errno, what string) {
	t.Helper()
	if got := tenant.All(l, pool); got != want {
		t.Fatalf("All of %s, %d tenants, a pool of %d: %d, not %d", what, len(l), pool, got, want)
	}
}

func TestExample(t *testing.T) {
	if e := tenant.All([]tenant.Tenant{good(1), good(1)}, 65536); e != 1 {
		t.Errorf("All of two with one ID: %d", e)
	}
}

func TestGood(t *testing.T) {
	for _, id := range []int{1, 2, 7, 255, 256, 258, 32767, 32768, 65534} {
		isGood(t, good(id), true, "an ordinary one")
	}
	isGood(t, least(), true, "the least one")
	isGood(t, greatest(), true, "the greatest one")
	isGood(t, tenant.Tenant{}, false, "a zero one")
	isGood(t, tenant.Tenant{ID: 2, Key: []byte("key"), Rights: 1, Budget: 33, Quota: 5, Every: 100, Queue: 2, Series: 3, Retain: 8}, true, "one that may push")
	isGood(t, tenant.Tenant{ID: 3, Key: []byte("key"), Rights: 2, Budget: 1, Quota: 1, Every: 1, Queue: 1, Series: 1, Retain: 1}, true, "one that may query")
}

// Each number alone, at its edges and far beyond, beside others that are ordinary, least
// or greatest.
func TestEachNumber(t *testing.T) {
	for _, f := range fields() {
		for _, x := range []tenant.Tenant{good(7), least(), greatest()} {
			for _, n := range slices.Concat(numbers(), []int{f.least - 1, f.least, f.least + 1, f.most - 1, f.most, f.most + 1, f.most + 65536, f.least - 65536, f.most + 1<<20, f.most + 1<<32}) {
				y := x
				*f.at(&y) = n
				isGood(t, y, n >= f.least && n <= f.most, f.name)
			}
		}
	}
}

// The edges once more, written out: no other reckoning is asked.
func TestEdges(t *testing.T) {
	for _, c := range []struct {
		turn func(x *tenant.Tenant)
		want bool
	}{
		{func(x *tenant.Tenant) { x.ID = -1 }, false},
		{func(x *tenant.Tenant) { x.ID = 0 }, true},
		{func(x *tenant.Tenant) { x.ID = 65535 }, true},
		{func(x *tenant.Tenant) { x.ID = 65536 }, false},
		{func(x *tenant.Tenant) { x.Key = nil }, false},
		{func(x *tenant.Tenant) { x.Key = []byte{} }, false},
		{func(x *tenant.Tenant) { x.Key = make([]byte, 1) }, true},
		{func(x *tenant.Tenant) { x.Key = make([]byte, 64) }, true},
		{func(x *tenant.Tenant) { x.Key = make([]byte, 65) }, false},
		{func(x *tenant.Tenant) { x.Rights = -1 }, false},
		{func(x *tenant.Tenant) { x.Rights = 0 }, true},
		{func(x *tenant.Tenant) { x.Rights = 1 }, true},
		{func(x *tenant.Tenant) { x.Rights = 2 }, true},
		{func(x *tenant.Tenant) { x.Rights = 3 }, true},
		{func(x *tenant.Tenant) { x.Rights = 4 }, false},
		{func(x *tenant.Tenant) { x.Budget = -1 }, false},
		{func(x *tenant.Tenant) { x.Budget = 0 }, true},
		{func(x *tenant.Tenant) { x.Budget = 65536 }, true},
		{func(x *tenant.Tenant) { x.Budget = 65537 }, false},
		{func(x *tenant.Tenant) { x.Quota = -1 }, false},
		{func(x *tenant.Tenant) { x.Quota = 0 }, true},
		{func(x *tenant.Tenant) { x.Quota = 1048576 }, true},
		{func(x *tenant.Tenant) { x.Quota = 1048577 }, false},
		{func(x *tenant.Tenant) { x.Every = 0 }, false},
		{func(x *tenant.Tenant) { x.Every = 1 }, true},
		{func(x *tenant.Tenant) { x.Every = 1048576 }, true},
		{func(x *tenant.Tenant) { x.Every = 1048577 }, false},
		{func(x *tenant.Tenant) { x.Queue = 0 }, false},
		{func(x *tenant.Tenant) { x.Queue = 1 }, true},
		{func(x *tenant.Tenant) { x.Queue = 16 }, true},
		{func(x *tenant.Tenant) { x.Queue = 17 }, false},
		{func(x *tenant.Tenant) { x.Series = 0 }, false},
		{func(x *tenant.Tenant) { x.Series = 1 }, true},
		{func(x *tenant.Tenant) { x.Series = 16 }, true},
		{func(x *tenant.Tenant) { x.Series = 17 }, false},
		{func(x *tenant.Tenant) { x.Retain = 0 }, false},
		{func(x *tenant.Tenant) { x.Retain = 1 }, true},
		{func(x *tenant.Tenant) { x.Retain = 64 }, true},
		{func(x *tenant.Tenant) { x.Retain = 65 }, false},
	} {
		x := good(7)
		c.turn(&x)
		isGood(t, x, c.want, "an edge")
	}
}

// A key's length counts, not its bytes nor the room behind it.
func TestKeys(t *testing.T) {
	for n := range 700 {
		for _, key := range [][]byte{make([]byte, n), bytes.Repeat([]byte{255}, n), pattern(n), pattern(n + 100)[:n], pattern(700)[:n]} {
			x := good(7)
			x.Key = key
			isGood(t, x, n >= 1 && n <= 64, "a key")
		}
	}
	x := good(7)
	for _, n := range []int{1 << 16, 1<<16 + 1, 1<<16 + 64, 1 << 20, 1<<24 + 1} {
		x.Key = make([]byte, n)
		isGood(t, x, false, "a long key")
		x.Key = x.Key[:64]
		isGood(t, x, true, "a key with much room behind it")
	}
}

// Any two numbers of one tenant, both at or about their edges.
func TestTwoNumbers(t *testing.T) {
	l := fields()
	for i, f := range l {
		for _, g := range l[:i] {
			for _, n := range []int{f.least - 1, f.least, f.most, f.most + 1, math.MinInt, math.MaxInt} {
				for _, m := range []int{g.least - 1, g.least, g.most, g.most + 1, math.MinInt, math.MaxInt} {
					x := good(7)
					*f.at(&x), *g.at(&x) = n, m
					isGood(t, x, n >= f.least && n <= f.most && m >= g.least && m <= g.most, f.name+" and "+g.name)
				}
			}
		}
	}
}

func TestAll(t *testing.T) {
	isAll(t, []tenant.Tenant{good(7)}, 96, api.OK, "one")
	isAll(t, []tenant.Tenant{good(7)}, 65536, api.OK, "one")
	isAll(t, []tenant.Tenant{good(7), good(8)}, 192, api.OK, "two")
	isAll(t, []tenant.Tenant{good(8), good(7)}, 1000, api.OK, "two, the other way")
	isAll(t, []tenant.Tenant{good(65535), good(0), good(300)}, 288, api.OK, "three")
	isAll(t, []tenant.Tenant{least(), greatest()}, 65536, api.OK, "the least and the greatest")
	isAll(t, []tenant.Tenant{greatest(), least()}, 65536, api.OK, "the greatest and the least")
	a, b := good(7), good(8)
	b.Key = a.Key
	isAll(t, []tenant.Tenant{a, b}, 192, api.OK, "two with one key")
}

func TestHowMany(t *testing.T) {
	for _, pool := range []int{0, 1, 96, 65536, -1, 65537} {
		isAll(t, nil, pool, api.EARG, "none")
		isAll(t, []tenant.Tenant{}, pool, api.EARG, "none")
		isAll(t, some(3, 9)[:0], pool, api.EARG, "none, with room behind")
	}
	for _, budget := range []int{0, 10, 32, 1024} {
		for n := 1; n <= 64; n++ {
			isAll(t, some(n, budget), n*budget, api.OK, "as many as may be")
			isAll(t, some(100, budget)[:n], 65536, api.OK, "as many as may be, with more behind")
		}
	}
	for _, n := range []int{65, 66, 127, 128, 129, 256, 257, 320, 1000, 65536} {
		isAll(t, some(n, 0), 65536, api.EARG, "too many")
		isAll(t, some(n, 0), 0, api.EARG, "too many")
	}
}

func TestPool(t *testing.T) {
	l := []tenant.Tenant{with(7, 0), with(8, 0)}
	for _, pool := range slices.Concat(numbers(), []int{0, 65535, 65536, 65537, -1, 131072, 1<<32 + 65536}) {
		want := api.EARG
		if pool >= 0 && pool <= 65536 {
			want = api.OK
		}
		isAll(t, l, pool, want, "two of no budget")
		isAll(t, l[:1], pool, want, "one of no budget")
		isAll(t, some(64, 0), pool, want, "as many as may be, of no budget")
	}
}

// Budgets that are just as much as the pool together, and one more, wherever the one is.
func TestTogether(t *testing.T) {
	for _, pool := range []int{0, 1, 2, 31, 32, 33, 100, 1000, 65534, 65535, 65536} {
		for n := 1; n <= 64; n++ {
			l := some(n, pool/n)
			l[n/2].Budget += pool % n
			isAll(t, l, pool, api.OK, "just as much")
			for i := range l {
				l[i].Budget++
				isAll(t, l, pool, api.EARG, "one more")
				l[i].Budget--
			}
			isAll(t, l, pool-1, api.EARG, "a pool of one less")
			for i := range l {
				if l[i].Budget > 0 {
					l[i].Budget--
					isAll(t, l, pool, api.OK, "one less")
					l[i].Budget++
				}
			}
		}
	}
	isAll(t, []tenant.Tenant{with(1, 65536), with(2, 0), with(3, 0)}, 65536, api.OK, "all of one")
	isAll(t, []tenant.Tenant{with(1, 0), with(2, 0), with(3, 65536)}, 65536, api.OK, "all of the last")
	isAll(t, []tenant.Tenant{with(1, 65536), with(2, 1)}, 65536, api.EARG, "all of one, and one more")
	isAll(t, []tenant.Tenant{with(1, 1), with(2, 65536)}, 65536, api.EARG, "one, and all")
	isAll(t, []tenant.Tenant{with(1, 65536), with(2, 65536)}, 65536, api.EARG, "all, twice")
	for n := 2; n <= 64; n++ {
		isAll(t, some(n, 65536), 65536, api.EARG, "all, so many times")
		isAll(t, some(n, 65536), 0, api.EARG, "all, so many times, of no pool")
	}
	isAll(t, []tenant.Tenant{good(1), good(2)}, 96, api.EARG, "the first one's alone")
	isAll(t, []tenant.Tenant{good(1), good(2)}, 191, api.EARG, "one less than both")
}

// Sums that would wrap round, or come down again: none of those budgets may be.
func TestGreatBudgets(t *testing.T) {
	for _, budgets := range [][]int{
		{math.MaxInt, math.MaxInt, 2}, {math.MaxInt, 1}, {math.MaxInt, math.MinInt}, {math.MinInt, math.MinInt}, {math.MinInt, math.MaxInt, 1},
		{1 << 62, 1 << 62, 1 << 62, 1 << 62}, {1 << 32, 1 << 32}, {1 << 31, 1 << 31}, {65537, -65537}, {-1, 1}, {65536, -1}, {-1, 65536},
		{96, -96, 96}, {65536, 65536, -65536}, {-65536, 65536, 65536}, {-1, -1}, {0, -1}, {math.MinInt}, {math.MaxInt}, {65536, math.MinInt}, {math.MinInt, 65536},
	} {
		var l []tenant.Tenant
		for i, n := range budgets {
			l = append(l, with(i, n))
		}
		for _, pool := range []int{0, 1, 65535, 65536, -1, 65537, math.MinInt, math.MaxInt} {
			isAll(t, l, pool, api.EARG, "great budgets")
		}
	}
	for _, pool := range []int{65537, 1 << 20, 1 << 32, math.MaxInt, -1, math.MinInt} {
		isAll(t, []tenant.Tenant{good(1), good(2)}, pool, api.EARG, "a pool that is none")
		isAll(t, some(64, 65536), pool, api.EARG, "a pool that is none")
	}
}

// One that is not Good, at each place, by each of its numbers and by its key.
func TestOneIsNotGood(t *testing.T) {
	for _, n := range []int{1, 2, 3, 5, 63, 64} {
		for at := range n {
			l := some(n, 10)
			isAll(t, l, 65536, api.OK, "all Good")
			for _, f := range fields() {
				for _, v := range []int{f.least - 1, f.most + 1, math.MinInt, math.MaxInt} {
					l := slices.Clone(l)
					*f.at(&l[at]) = v
					isAll(t, l, 65536, api.EARG, "one that is not Good: "+f.name)
				}
			}
			for _, key := range [][]byte{nil, {}, make([]byte, 65), pattern(1000)} {
				l := slices.Clone(l)
				l[at].Key = key
				isAll(t, l, 65536, api.EARG, "one that is not Good: its key")
			}
			l[at] = tenant.Tenant{}
			isAll(t, l, 65536, api.EARG, "one that is zero")
		}
	}
}

// An ID that is there twice, at any two places.
func TestTwice(t *testing.T) {
	for _, n := range []int{2, 3, 4, 10, 64} {
		l := some(n, 10)
		isAll(t, l, 65536, api.OK, "all others")
		for i := range l {
			for k := range l {
				if k == i {
					continue
				}
				for _, id := range []int{l[k].ID, 0, 65535, 12345} {
					m := slices.Clone(l)
					m[i].ID, m[k].ID = id, id
					isAll(t, m, 65536, api.EARG, "an ID that is there twice")
				}
				m := slices.Clone(l)
				m[i].ID = l[k].ID
				m[i].Key, m[i].Rights, m[i].Budget = []byte("another"), 1, 0
				isAll(t, m, 65536, api.EARG, "an ID that is there twice, of tenants that are unlike")
			}
		}
	}
	isAll(t, []tenant.Tenant{good(4), good(4), good(4)}, 65536, api.EARG, "an ID that is there three times")
	isAll(t, []tenant.Tenant{with(4, 0), with(4, 0)}, 0, api.EARG, "an ID that is there twice, of no budget")
	for bit := range 16 { // IDs that are alike in all bits but one
		isAll(t, []tenant.Tenant{good(0), good(1 << bit)}, 192, api.OK, "IDs alike but for one bit")
		isAll(t, []tenant.Tenant{good(65535), good(65535 - 1<<bit)}, 192, api.OK, "IDs alike but for one bit")
	}
}

// All IDs, each in one list with the one behind it.
func TestEveryID(t *testing.T) {
	for id := range 65536 {
		l := []tenant.Tenant{good(id), good((id + 1) % 65536)}
		if tenant.All(l, 192) != api.OK {
			t.Fatalf("All of %d and the next", id)
		}
		if at, ok := tenant.Find(l, (id+1)%65536); at != 1 || !ok {
			t.Fatalf("Find of %d: %d, %v", (id+1)%65536, at, ok)
		}
		l[1].ID = id
		if tenant.All(l, 192) != api.EARG {
			t.Fatalf("All of %d, twice", id)
		}
		if at, ok := tenant.Find(l, id); at != 0 || !ok {
			t.Fatalf("Find of %d, there twice: %d, %v", id, at, ok)
		}
	}
}

// found holds what Find tells; want is -1 of none.
func found(t *testing.T, l []tenant.Tenant, id, want int) {
	t.Helper()
	at, ok := tenant.Find(l, id)
	if want < 0 && (at != 0 || ok) || want >= 0 && (at != want || !ok) {
		t.Fatalf("Find of %d among %d: %d, %v, not %d", id, len(l), at, ok, want)
	}
}

func TestFind(t *testing.T) {
	for n := range 200 {
		l := some(n, 1)
		for i, x := range l {
			found(t, l, x.ID, i)
			found(t, l[:i], x.ID, -1)
			found(t, l[i:], x.ID, 0)
			for _, off := range []int{65536, -65536, 1 << 32, -1 << 32, math.MinInt} {
				found(t, l, x.ID+off, -1)
			}
			found(t, l, ^x.ID, -1)
		}
		for _, id := range []int{-1, 65536, math.MinInt, math.MaxInt, 1, 3} {
			found(t, l, id, slices.IndexFunc(l, func(x tenant.Tenant) bool { return x.ID == id }))
		}
	}
	for _, id := range []int{0, 1, -1, 7, 65535, 65536, math.MinInt, math.MaxInt} {
		found(t, nil, id, -1)
		found(t, []tenant.Tenant{}, id, -1)
		found(t, []tenant.Tenant{good(9)}, id, -1)
	}
}

// The first one's place, of an ID that is there more than once.
func TestFindTheFirst(t *testing.T) {
	l := []tenant.Tenant{good(5), good(3), good(5), good(3), good(5), good(9)}
	found(t, l, 5, 0)
	found(t, l, 3, 1)
	found(t, l, 9, 5)
	found(t, l[1:], 5, 1)
	found(t, l[2:], 3, 1)
	for n := 2; n < 70; n++ {
		for first := range n {
			m := some(n, 1)
			for i := first; i < n; i++ {
				m[i].ID = 77
			}
			found(t, m, 77, first)
		}
	}
}

// Find asks for nobody to be Good.
func TestFindAmongNoneGood(t *testing.T) {
	l := []tenant.Tenant{{ID: -1}, {ID: 70000, Budget: 7}, {ID: math.MinInt}, {ID: math.MaxInt}, {}, {ID: -1, Rights: 9}, {ID: 4}}
	for id, at := range map[int]int{-1: 0, 70000: 1, math.MinInt: 2, math.MaxInt: 3, 0: 4, 4: 6, 1: -1, 70001: -1, 70000 - 65536: -1} {
		found(t, l, id, at)
	}
}

// told holds what Budgets tells.
func told(t *testing.T, l []tenant.Tenant, want ...int) {
	t.Helper()
	if got := tenant.Budgets(l); !slices.Equal(got, want) {
		t.Fatalf("Budgets of %d: %d, not %d", len(l), got, want)
	}
}

func TestBudgets(t *testing.T) {
	told(t, nil)
	told(t, []tenant.Tenant{})
	told(t, some(5, 3)[:0])
	told(t, []tenant.Tenant{with(1, 5)}, 5)
	told(t, []tenant.Tenant{with(1, 5), with(2, 0), with(3, 65536)}, 5, 0, 65536)
	told(t, []tenant.Tenant{with(9, 3), with(1, 2), with(9, 1)}, 3, 2, 1)
	told(t, []tenant.Tenant{with(9, 4), with(9, 4), with(9, 4)}, 4, 4, 4)
	told(t, []tenant.Tenant{{Budget: -1}, {ID: -1, Budget: 7}, {}, {Budget: 65537}, {Budget: math.MinInt}, {Budget: math.MaxInt}}, -1, 7, 0, 65537, math.MinInt, math.MaxInt)
	for n := range 200 {
		l := some(n, 0)
		var want []int
		for i := range l {
			l[i].Budget = i*i*i - 500
			want = append(want, i*i*i-500)
		}
		told(t, l, want...)
	}
}

// copyOf is a copy of all, keys and spare room too.
func copyOf(l []tenant.Tenant) []tenant.Tenant {
	m := slices.Clone(l[:cap(l)])
	for i := range m {
		m[i].Key = slices.Clone(m[i].Key[:cap(m[i].Key)])[:len(m[i].Key)]
	}
	return m
}

// same tells whether two are alike in all, spare room of keys too.
func same(a, b []tenant.Tenant) bool {
	for i := range a {
		if !reflect.DeepEqual(a[i], b[i]) || !bytes.Equal(a[i].Key[:cap(a[i].Key)], b[i].Key[:cap(a[i].Key)]) {
			return false
		}
	}
	return len(a) == len(b)
}

// What was handed in is as it was, spare room and keys included, refused or not.
func TestHandedInIsNotChanged(t *testing.T) {
	for _, n := range []int{0, 1, 2, 7, 64, 65} {
		for _, budget := range []int{0, 9, 65536, -1, math.MaxInt} {
			room := some(n+5, budget)
			for i := range room {
				room[i].ID = (i * 31) % 5000
				room[i].Key = pattern(i + 20)[:i+1]
			}
			if n == 7 {
				room[3].ID, room[4].ID = room[5].ID, -1
			}
			before := copyOf(room)
			for _, pool := range []int{0, 1000, 65536, -1, 65537, math.MinInt} {
				tenant.All(room[:n], pool)
			}
			for i, x := range room {
				tenant.Good(x)
				tenant.Find(room[:n], x.ID)
				tenant.Find(room[:n], i-3)
			}
			tenant.Budgets(room[:n])
			if !same(room[:cap(room)], before) {
				t.Fatalf("what was handed in of %d, or the room behind, is changed", n)
			}
		}
	}
}

// What Budgets told may be written over, spare room included, and stays as it was when
// what was handed in is written over.
func TestBudgetsIsNewMemory(t *testing.T) {
	for n := range 130 {
		l := some(n, 0)
		var want []int
		for i := range l {
			l[i].Budget = i + 1
			want = append(want, i+1)
		}
		first, second := tenant.Budgets(l), tenant.Budgets(l)
		first = first[:cap(first)]
		for i := range first {
			first[i] = -9
		}
		if !slices.Equal(second, want) {
			t.Fatalf("Budgets of %d shares memory: %d", n, second)
		}
		told(t, l, want...)
		for i := range l {
			l[i] = tenant.Tenant{Budget: -3}
		}
		if !slices.Equal(second, want) {
			t.Fatalf("Budgets kept the %d that it was handed", n)
		}
	}
}

// Nothing is kept from call to call.
func TestKeepsNothing(t *testing.T) {
	l := []tenant.Tenant{good(1), good(2)}
	for range 3 {
		isAll(t, l, 192, api.OK, "two")
		isAll(t, l, 191, api.EARG, "two, a pool too small")
		isAll(t, append(l[:1:1], good(1)), 192, api.EARG, "one ID twice")
		isAll(t, append(l[:1:1], tenant.Tenant{}), 192, api.EARG, "one that is not Good")
		found(t, l, 2, 1)
		found(t, l[:1], 2, -1)
		told(t, l, 96, 96)
		l[1].Key[0]++ // one key, held anew each time
		isGood(t, l[1], true, "another key")
	}
}

// Many lists, most of them near to what may be, against another reckoning.
func TestAnyLists(t *testing.T) {
	r := rand.New(rand.NewSource(15))
	all := fields()
	counts := map[api.Errno]int{}
	for range 20000 {
		l := make([]tenant.Tenant, r.Intn(9))
		if r.Intn(20) == 0 {
			l = make([]tenant.Tenant, 60+r.Intn(8))
		}
		for i := range l {
			l[i] = with(r.Intn(400), r.Intn(40))
			l[i].Key = pattern(1 + r.Intn(64))
		}
		if len(l) > 0 && r.Intn(3) == 0 {
			f := all[r.Intn(len(all))]
			*f.at(&l[r.Intn(len(l))]) = []int{f.least - 1, f.least, f.most, f.most + 1, r.Int(), -r.Int()}[r.Intn(6)]
		}
		sum := 0
		for _, x := range l {
			sum += x.Budget
		}
		pool := []int{sum, sum - 1, sum + 1, 65536, r.Intn(65537), r.Int()}[r.Intn(6)]
		want := mayAll(l, pool)
		counts[want]++
		isAll(t, l, pool, want, "any")
		for _, x := range l {
			if tenant.Good(x) != may(x) {
				t.Fatalf("Good of %+v: %v", x, !may(x))
			}
		}
	}
	if counts[api.OK] < 3000 || counts[api.EARG] < 3000 {
		t.Fatalf("too few of one kind: %v", counts)
	}
}

// So many that one would wait for long, if each were held against each.
func TestVeryMany(t *testing.T) {
	l := make([]tenant.Tenant, 1<<20)
	for i := range l {
		l[i] = with(i, i)
	}
	isAll(t, l, 65536, api.EARG, "very many")
	isAll(t, l, -1, api.EARG, "very many")
	found(t, l, 1<<20-1, 1<<20-1)
	found(t, l, 1<<20, -1)
	for i, n := range tenant.Budgets(l) {
		if n != i {
			t.Fatalf("Budgets of very many, at %d: %d", i, n)
		}
	}
}

func TestSideBySide(t *testing.T) {
	wrong := make([]bool, 8)
	l := some(64, 10)
	twice := append(some(63, 10), l[0])
	var all sync.WaitGroup
	for i := range wrong {
		all.Go(func() {
			for range 300 {
				at, ok := tenant.Find(l, l[i*8].ID)
				if tenant.All(l, 640) != api.OK || tenant.All(l, 639) != api.EARG || tenant.All(twice, 65536) != api.EARG || at != i*8 || !ok || !tenant.Good(l[i]) || len(tenant.Budgets(l)) != 64 {
					wrong[i] = true
				}
			}
		})
	}
	all.Wait()
	if slices.Contains(wrong, true) {
		t.Errorf("workers that were told another thing: %v", wrong)
	}
}
