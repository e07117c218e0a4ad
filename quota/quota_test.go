package quota_test

import (
	"math"
	"math/big"
	"math/rand"
	"slices"
	"sync"
	"testing"

	"warrener/api"
	"warrener/quota"
)

// most is MaxQuota, written out.
const most = 1048576

// numbers are such as stand about the edges of all fields, and far beyond; many of them
// are well within in their lowest bits.
func numbers() []int {
	l := []int{math.MinInt, math.MinInt + 1, math.MinInt32, math.MaxInt32, math.MaxUint32, math.MaxInt - 1, math.MaxInt}
	for n := -9; n <= 9; n++ {
		l = append(l, n)
	}
	for bit := 4; bit < 63; bit++ {
		for off := -2; off <= 2; off++ {
			l = append(l, 1<<bit+off, -1<<bit+off)
		}
	}
	return l
}

// may is what Good should tell: with no room between the bounds nothing is within.
func may(q quota.Quota) bool {
	switch {
	case q.Of < 0, q.Of > most, q.Every < 1, q.Every > most, q.Left < 0, q.Left > q.Of, q.At < 0, q.At >= q.Every:
		return false
	}
	return true
}

// slot is what Slot should tell of one that is Good, in the chapter's words.
func slot(q quota.Quota) quota.Quota {
	q.At++
	if q.At == q.Every {
		q.At, q.Left = 0, q.Of
	}
	return q
}

// slots is what Slots should tell of one that is Good, by numbers that never wrap round.
func slots(q quota.Quota, n int) quota.Quota {
	if n < 0 {
		return q
	}
	rounds, at := new(big.Int).DivMod(
		new(big.Int).Add(big.NewInt(int64(q.At)), big.NewInt(int64(n))),
		big.NewInt(int64(q.Every)), new(big.Int))
	if rounds.Sign() > 0 {
		q.Left = q.Of
	}
	q.At = int(at.Int64())
	return q
}

// each calls f with all that are Good, of an Of and an Every of at most so many.
func each(of, every int, f func(q quota.Quota)) {
	for o := range of + 1 {
		for e := 1; e <= every; e++ {
			for left := range o + 1 {
				for at := range e {
					f(quota.Quota{Of: o, Every: e, Left: left, At: at})
				}
			}
		}
	}
}

// edges are Good ones with each number at an edge, or next to it, or between.
func edges() []quota.Quota {
	var l []quota.Quota
	for _, of := range []int{0, 1, 2, 500000, most - 1, most} {
		for _, every := range []int{1, 2, 3, 300000, most - 1, most} {
			for _, left := range []int{0, 1, of / 2, of - 1, of} {
				for _, at := range []int{0, 1, every / 2, every - 2, every - 1} {
					if q := (quota.Quota{Of: of, Every: every, Left: left, At: at}); may(q) {
						l = append(l, q)
					}
				}
			}
		}
	}
	return l
}

// made holds what New tells of one that may be.
func made(t *testing.T, of, every int) quota.Quota {
	t.Helper()
	q, e := quota.New(of, every)
	if q != (quota.Quota{Of: of, Every: every, Left: of, At: 0}) || e != api.OK {
		t.Fatalf("New(%d, %d): %+v, %d", of, every, q, e)
	}
	return q
}

// refused holds that New makes none.
func refused(t *testing.T, of, every int) {
	t.Helper()
	if q, e := quota.New(of, every); q != (quota.Quota{}) || e != api.EARG {
		t.Fatalf("New(%d, %d): %+v, %d", of, every, q, e)
	}
}

// used holds what Use tells of one that is Good, and tells what is left of it.
func used(t *testing.T, q quota.Quota, want bool) quota.Quota {
	t.Helper()
	then := q
	if want {
		then.Left = q.Left - 1
	}
	got, ok := quota.Use(q)
	if got != then || ok != want {
		t.Fatalf("Use of %+v: %+v, %v, not %+v, %v", q, got, ok, then, want)
	}
	return got
}

// slotted holds what Slot tells of one that is Good, and tells it.
func slotted(t *testing.T, q quota.Quota) quota.Quota {
	t.Helper()
	got := quota.Slot(q)
	if got != slot(q) {
		t.Fatalf("Slot of %+v: %+v, not %+v", q, got, slot(q))
	}
	return got
}

// went holds what Slots tells of one that is Good, and tells it.
func went(t *testing.T, q quota.Quota, n int) quota.Quota {
	t.Helper()
	got := quota.Slots(q, n)
	if got != slots(q, n) {
		t.Fatalf("Slots of %+v, %d: %+v, not %+v", q, n, got, slots(q, n))
	}
	return got
}

// none holds what all calls tell of one that is not Good.
func none(t *testing.T, q quota.Quota) {
	t.Helper()
	if quota.Good(q) {
		t.Fatalf("Good of %+v", q)
	}
	if got := quota.Slot(q); got != q {
		t.Fatalf("Slot of %+v, that is not Good: %+v", q, got)
	}
	if got, ok := quota.Use(q); got != q || ok {
		t.Fatalf("Use of %+v, that is not Good: %+v, %v", q, got, ok)
	}
	for _, n := range []int{0, 1, 2, 9, most, -1, math.MinInt, math.MaxInt, -q.At, q.Every, q.Every - q.At} {
		if got := quota.Slots(q, n); got != q {
			t.Fatalf("Slots of %+v, that is not Good, %d: %+v", q, n, got)
		}
	}
}

func TestExample(t *testing.T) {
	q := made(t, 1, 2)
	q = used(t, q, true)
	q = used(t, q, false)
	q = quota.Slots(q, 2)
	if q != (quota.Quota{Of: 1, Every: 2, Left: 1, At: 0}) {
		t.Fatalf("Slots(2): %+v", q)
	}
	if q, ok := quota.Use(q); q != (quota.Quota{Of: 1, Every: 2, Left: 0, At: 0}) || !ok {
		t.Fatalf("Use: %+v, %v", q, ok)
	}
}

// All pairs of hard numbers, and each number of either kind with an ordinary other one.
func TestNew(t *testing.T) {
	for _, of := range numbers() {
		for _, every := range numbers() {
			if of >= 0 && of <= most && every >= 1 && every <= most {
				made(t, of, every)
			} else {
				refused(t, of, every)
			}
		}
	}
	for n := range most + 1 {
		made(t, n, 3)
		if n > 0 {
			made(t, 3, n)
		}
	}
}

func TestNewRefuses(t *testing.T) {
	for _, of := range []int{-1, most + 1, math.MinInt, math.MaxInt} {
		for _, every := range []int{0, -1, most + 1, math.MinInt, math.MaxInt} {
			refused(t, of, every)
			refused(t, of, 1)
			refused(t, of, most)
			refused(t, 0, every)
			refused(t, most, every)
		}
	}
}

func TestGood(t *testing.T) {
	for _, q := range edges() {
		if !quota.Good(q) {
			t.Fatalf("Good of %+v: false", q)
		}
	}
	each(7, 7, func(q quota.Quota) {
		if !quota.Good(q) {
			t.Fatalf("Good of %+v: false", q)
		}
	})
	none(t, quota.Quota{})
}

// Every four numbers from -2 to 5: those that may be, and those that may not.
func TestGoodOfSmall(t *testing.T) {
	for i := range 8 * 8 * 8 * 8 {
		q := quota.Quota{Of: i%8 - 2, Every: i/8%8 - 2, Left: i/64%8 - 2, At: i/512 - 2}
		if !may(q) {
			none(t, q)
		} else if !quota.Good(q) {
			t.Fatalf("Good of %+v: false", q)
		}
	}
}

// One number at a time, just past each bound and far beyond it.
func TestOneNumberIsNotGood(t *testing.T) {
	for _, good := range edges() {
		for _, n := range append(numbers(), good.Of+1, good.Every, good.Every+1, good.Left-1, good.At-1) {
			for i := range 4 {
				q := good
				*[]*int{&q.Of, &q.Every, &q.Left, &q.At}[i] = n
				if !may(q) {
					none(t, q)
				} else if !quota.Good(q) {
					t.Fatalf("Good of %+v: false", q)
				}
			}
		}
	}
}

// Each bound by its own number, written out.
func TestEachBound(t *testing.T) {
	for _, n := range []int{-1, most + 1, math.MinInt, math.MaxInt} {
		none(t, quota.Quota{Of: n, Every: 9, Left: 0, At: 0})
		none(t, quota.Quota{Of: n, Every: 9, Left: n, At: 0})
	}
	for _, n := range []int{0, -1, most + 1, math.MinInt, math.MaxInt} {
		none(t, quota.Quota{Of: 9, Every: n, Left: 9, At: 0})
		none(t, quota.Quota{Of: 9, Every: n, Left: 0, At: -1})
		none(t, quota.Quota{Of: 9, Every: n, Left: 5, At: n - 1})
	}
	for _, n := range []int{-1, 10, math.MinInt, math.MaxInt} {
		none(t, quota.Quota{Of: 9, Every: 8, Left: n, At: 3})
		none(t, quota.Quota{Of: 9, Every: 8, Left: n, At: 7})
	}
	for _, n := range []int{-1, 8, 9, math.MinInt, math.MaxInt} {
		none(t, quota.Quota{Of: 9, Every: 8, Left: 3, At: n})
		none(t, quota.Quota{Of: 9, Every: 8, Left: 0, At: n})
	}
}

func TestSlot(t *testing.T) {
	each(6, 9, func(q quota.Quota) { slotted(t, q) })
	for _, q := range edges() {
		slotted(t, q)
	}
	for _, left := range []int{0, 1, 4, 8, 9} { // the last place of a round, and the one ahead of it
		if q := quota.Slot(quota.Quota{Of: 9, Every: 5, Left: left, At: 4}); q != (quota.Quota{Of: 9, Every: 5, Left: 9, At: 0}) {
			t.Errorf("Slot at the end of a round, %d left: %+v", left, q)
		}
		if q := quota.Slot(quota.Quota{Of: 9, Every: 5, Left: left, At: 3}); q != (quota.Quota{Of: 9, Every: 5, Left: left, At: 4}) {
			t.Errorf("Slot ahead of the end of a round, %d left: %+v", left, q)
		}
	}
}

func TestUse(t *testing.T) {
	each(6, 9, func(q quota.Quota) { used(t, q, q.Left > 0) })
	for _, q := range edges() {
		used(t, q, q.Left > 0)
	}
	for _, at := range []int{0, 2, 4} {
		if q, ok := quota.Use(quota.Quota{Of: 9, Every: 5, Left: 1, At: at}); q != (quota.Quota{Of: 9, Every: 5, Left: 0, At: at}) || !ok {
			t.Errorf("Use of one: %+v, %v", q, ok)
		}
		if q, ok := quota.Use(quota.Quota{Of: 9, Every: 5, Left: 0, At: at}); q != (quota.Quota{Of: 9, Every: 5, Left: 0, At: at}) || ok {
			t.Errorf("Use of none: %+v, %v", q, ok)
		}
	}
}

// Every 1: each Slot is the end of a round.
func TestEveryOne(t *testing.T) {
	for _, of := range []int{0, 1, 2, 7, most} {
		q := made(t, of, 1)
		for range 5 {
			for range min(of, 3) {
				q = used(t, q, true)
			}
			if q = slotted(t, q); q != (quota.Quota{Of: of, Every: 1, Left: of, At: 0}) {
				t.Fatalf("Slot of every 1: %+v", q)
			}
		}
	}
}

// Used until nothing is left, at each place of a round; then Slot by Slot until there is
// something again, and so for several rounds.
func TestRounds(t *testing.T) {
	for of := range 6 {
		for every := 1; every < 8; every++ {
			for place := range every {
				q := made(t, of, every)
				for round := range 4 {
					for at := range every {
						if q.At != at || at <= place && q.Left != of || at > place && q.Left != 0 {
							t.Fatalf("%d every %d, round %d, place %d, used at %d: %+v", of, every, round, at, place, q)
						}
						if at == place {
							for range of {
								q = used(t, q, true)
							}
							q = used(t, q, false)
						}
						q = slotted(t, q)
					}
				}
			}
		}
	}
}

// One use a slot while there is one: in each round the first ones, and no more.
func TestUsesOfARound(t *testing.T) {
	for of := range 12 {
		for every := 1; every < 12; every++ {
			q := made(t, of, every)
			for i := range 5 * every {
				q = used(t, q, i%every < of)
				q = slotted(t, q)
			}
		}
	}
}

// Uses in the middle of a round are not there again till it ends.
func TestUseInTheMiddle(t *testing.T) {
	q := made(t, 3, 4)
	for range 3 {
		q = slotted(t, slotted(t, q))
		q = used(t, used(t, q, true), true)
		q = slotted(t, q)
		if q != (quota.Quota{Of: 3, Every: 4, Left: 1, At: 3}) {
			t.Fatalf("at the last place: %+v", q)
		}
		q = used(t, used(t, q, true), false)
		if q = slotted(t, q); q != (quota.Quota{Of: 3, Every: 4, Left: 3, At: 0}) {
			t.Fatalf("at the next round's beginning: %+v", q)
		}
	}
}

// Slots against as many calls of Slot, through several rounds.
func TestSlotsOneByOne(t *testing.T) {
	each(4, 7, func(q quota.Quota) {
		for _, n := range []int{-1, -2, -7, -q.At, -q.Every, math.MinInt, math.MinInt + 1} {
			if n < 0 && went(t, q, n) != q {
				t.Fatalf("Slots of %+v, %d", q, n)
			}
		}
		x := q
		for n := range 5*q.Every + 2 {
			if got := went(t, q, n); got != x {
				t.Fatalf("Slots of %+v, %d: %+v, one by one %+v", q, n, got, x)
			}
			x = quota.Slot(x)
		}
	})
}

// Just as many as lead to the end of the round, one fewer and one more, and so of whole rounds.
func TestSlotsAboutTheEnd(t *testing.T) {
	for _, q := range edges() {
		end := q.Every - q.At
		for _, rounds := range []int{0, 1, 2, 3, 1000, 1 << 40} {
			n := end + rounds*q.Every
			if got := went(t, q, n); got.At != 0 || got.Left != q.Of {
				t.Fatalf("Slots of %+v, %d: %+v", q, n, got)
			}
			if got := went(t, q, n-1); got.At != q.Every-1 || rounds == 0 && got.Left != q.Left {
				t.Fatalf("Slots of %+v, %d: %+v", q, n-1, got)
			}
			went(t, q, n+1)
			went(t, q, rounds*q.Every)
			went(t, q, -n)
		}
		if went(t, q, 0) != q || went(t, q, 1) != slotted(t, q) {
			t.Fatalf("Slots of %+v, none or one", q)
		}
	}
	q := quota.Quota{Of: 9, Every: 5, Left: 2, At: 3}
	for n, want := range map[int]quota.Quota{-1: q, 0: q, 1: {Of: 9, Every: 5, Left: 2, At: 4}, 2: {Of: 9, Every: 5, Left: 9, At: 0}, 3: {Of: 9, Every: 5, Left: 9, At: 1}, 5: {Of: 9, Every: 5, Left: 9, At: 3}, 50: {Of: 9, Every: 5, Left: 9, At: 3}} {
		if got := quota.Slots(q, n); got != want {
			t.Errorf("Slots(%d): %+v", n, got)
		}
	}
}

// A round as long as may be, and nearly two of them, against as many calls of Slot.
func TestLongRound(t *testing.T) {
	q := quota.Quota{Of: most, Every: most, Left: 5, At: 2}
	x := q
	for n := range 2*most + 5 {
		if n < 10 || n%4099 == 0 || n > most-10 && n < most+10 || n > 2*most-10 {
			if got := quota.Slots(q, n); got != x {
				t.Fatalf("Slots of %d: %+v, one by one %+v", n, got, x)
			}
		}
		x = quota.Slot(x)
	}
}

// Very many: it ends, and nothing wraps round.
func TestSlotsOfVeryMany(t *testing.T) {
	for _, q := range edges() {
		for _, n := range numbers() {
			went(t, q, n)
		}
		for off := range 20 {
			went(t, q, math.MaxInt-off)
			went(t, q, math.MinInt+off)
			went(t, q, math.MaxInt-q.At-off) // about where At and n together would wrap round
			went(t, q, math.MaxInt-max(0, q.At-off))
		}
	}
	q := quota.Quota{Of: 9, Every: 1000, Left: 2, At: 999}
	if got := quota.Slots(q, math.MaxInt); got != (quota.Quota{Of: 9, Every: 1000, Left: 9, At: 806}) {
		t.Errorf("Slots of %d: %+v", math.MaxInt, got)
	}
	if got := quota.Slots(q, math.MinInt); got != q {
		t.Errorf("Slots of %d: %+v", math.MinInt, got)
	}
}

// Some and then some are as many together.
func TestSlotsTwice(t *testing.T) {
	each(3, 5, func(q quota.Quota) {
		for a := range 13 {
			for b := range 13 {
				if quota.Slots(quota.Slots(q, a), b) != quota.Slots(q, a+b) {
					t.Fatalf("Slots of %+v, %d and then %d", q, a, b)
				}
			}
		}
	})
}

// Long rows of steps against a count of all slots that went by and of a round's uses.
func TestAnySteps(t *testing.T) {
	r := rand.New(rand.NewSource(16))
	for range 3000 {
		of, every := r.Intn(12), 1+r.Intn(12)
		if r.Intn(4) == 0 {
			of, every = r.Intn(most+1), 1+r.Intn(most)
		}
		q := made(t, of, every)
		went, uses := 0, 0
		pass := func(n int) {
			if (went+n)/every != went/every {
				uses = 0
			}
			went += n
		}
		for range 60 {
			switch r.Intn(5) {
			case 0:
				q = quota.Slot(q)
				pass(1)
			case 1:
				n := []int{r.Intn(4), r.Intn(40), every, every - 1, r.Intn(1 << 40)}[r.Intn(5)]
				q = quota.Slots(q, n)
				pass(n)
			case 2:
				q = quota.Slots(q, -r.Intn(1<<40))
			default:
				q = used(t, q, uses < of)
				uses = min(uses+1, of)
			}
			if q != (quota.Quota{Of: of, Every: every, Left: of - uses, At: went % every}) || !quota.Good(q) {
				t.Fatalf("%d every %d, %d slots, %d uses: %+v", of, every, went, uses, q)
			}
		}
	}
}

// Nothing is kept from call to call: the same is told of the same, whatever is asked between.
func TestKeepsNothing(t *testing.T) {
	a, b := quota.Quota{Of: 3, Every: 4, Left: 2, At: 3}, quota.Quota{Of: 5, Every: 2, Left: 0, At: 1}
	for range 5 {
		made(t, 3, 4)
		refused(t, 3, 0)
		used(t, a, true)
		used(t, b, false)
		slotted(t, a)
		slotted(t, b)
		went(t, a, 6)
		none(t, quota.Quota{Of: 3, Every: 4, Left: 4, At: 3})
	}
}

func TestSideBySide(t *testing.T) {
	wrong := make([]bool, 8)
	var all sync.WaitGroup
	for i := range wrong {
		all.Go(func() {
			q, e := quota.New(i, i+1)
			for n := range 3000 {
				then, ok := quota.Use(q)
				if e != api.OK || ok != (i > 0) || !quota.Good(q) || quota.Slots(then, n) != slots(then, n) || quota.Slot(then) != slot(then) {
					wrong[i] = true
				}
			}
		})
	}
	all.Wait()
	if slices.Contains(wrong, true) {
		t.Errorf("workers that were told another thing: %v", wrong)
	}
}
