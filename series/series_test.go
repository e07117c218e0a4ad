package series_test

import (
	"math"
	"math/big"
	"math/rand"
	"slices"
	"sync"
	"testing"

	"warrener/api"
	"warrener/series"
)

// most is MaxRetain, written out.
const most = 64

const (
	low = math.MinInt64
	top = math.MaxInt64
)

// at are samples of those times, each with a number of its own that does not rise with them.
func at(times ...int64) []series.Sample {
	var l []series.Sample
	for i, x := range times {
		l = append(l, series.Sample{T: x, V: (x*7919)%1000 - 500*int64(i%3)})
	}
	return l
}

// rising are n samples from a time on, each so much behind the one ahead of it.
func rising(n int, from, step int64) []series.Sample {
	var times []int64
	for i := range n {
		times = append(times, from+int64(i)*step)
	}
	return at(times...)
}

// hard are times that stand about the edges: of the type, of its halves, and of nought.
func hard() []int64 {
	l := []int64{low, low + 1, low + 2, low / 2, low/2 - 1, low/2 + 1, top / 2, top/2 + 1, top/2 + 2, top - 2, top - 1, top}
	for x := int64(-3); x <= 3; x++ {
		l = append(l, x)
	}
	for _, bit := range []int{7, 8, 15, 16, 31, 32, 33, 53, 62} {
		for off := int64(-1); off <= 1; off++ {
			l = append(l, 1<<bit+off, -(1<<bit)+off)
		}
	}
	slices.Sort(l)
	return slices.Compact(l)
}

// numbers are such as may be a retain, and such as may not, near and far.
func numbers() []int {
	l := []int{math.MinInt, math.MinInt + 1, math.MinInt + 5, math.MinInt32, math.MaxInt32, math.MaxUint32, math.MaxInt - 1, math.MaxInt}
	for n := -70; n <= 140; n++ {
		l = append(l, n)
	}
	for bit := 7; bit < 63; bit++ {
		for _, off := range []int{-1, 0, 1, 5, 64} {
			l = append(l, 1<<bit+off, -1<<bit+off)
		}
	}
	return l
}

// above tells whether a is above b, by numbers that never wrap round.
func above(a, b int64) bool {
	return new(big.Int).Sub(big.NewInt(a), big.NewInt(b)).Sign() > 0
}

// may is what Good should tell: each is above those ahead of it (of a long list the nine
// nearest ones, as all would take long).
func may(l []series.Sample) bool {
	for i := range l {
		for k := max(0, i-9); k < i; k++ {
			if !above(l[i].T, l[k].T) {
				return false
			}
		}
	}
	return true
}

// added is what Add should tell, in another way than the program's own.
func added(l, more []series.Sample, retain int) ([]series.Sample, api.Errno) {
	if retain <= 0 || retain >= most+1 || !may(l) {
		return nil, 1
	}
	var kept []series.Sample
	for _, s := range l {
		kept = append(kept, s)
	}
	for _, s := range more {
		if len(kept) > 0 && !above(s.T, kept[len(kept)-1].T) {
			return nil, 8
		}
		kept = append(kept, s)
	}
	for len(kept) > retain {
		kept = kept[1:]
	}
	return kept, 0
}

// ranged is what Range should tell.
func ranged(l []series.Sample, from, to int64) []series.Sample {
	var in []series.Sample
	for _, s := range l {
		if !above(from, s.T) && !above(s.T, to) {
			in = append(in, s)
		}
	}
	return in
}

// all lists of at most so many of the given times.
func lists(many int, times ...int64) [][]series.Sample {
	l := [][]series.Sample{nil}
	for from, n := 0, 0; n < many; n++ {
		to := len(l)
		for _, ahead := range l[from:to] {
			for _, x := range times {
				l = append(l, append(slices.Clone(ahead), series.Sample{T: x, V: x*10 + int64(n)}))
			}
		}
		from = to
	}
	return l
}

// good holds what Good tells.
func good(t *testing.T, l []series.Sample, want bool) {
	t.Helper()
	if got := series.Good(l); got != want {
		t.Fatalf("Good of %v: %v", l, got)
	}
}

// add holds what Add tells against added, and tells it.
func add(t *testing.T, l, more []series.Sample, retain int) []series.Sample {
	t.Helper()
	want, f := added(l, more, retain)
	got, e := series.Add(l, more, retain)
	if e != f || !slices.Equal(got, want) || e != api.OK && len(got) > 0 {
		t.Fatalf("Add of %v, %v, %d: %v, %d, not %v, %d", l, more, retain, got, e, want, f)
	}
	return got
}

// kept holds that Add tells just that.
func kept(t *testing.T, l, more []series.Sample, retain int, want []series.Sample) {
	t.Helper()
	if got, e := series.Add(l, more, retain); e != api.OK || !slices.Equal(got, want) {
		t.Fatalf("Add of %v, %v, %d: %v, %d, not %v", l, more, retain, got, e, want)
	}
	add(t, l, more, retain)
}

// refused holds that Add tells just that error, and nothing beside it.
func refused(t *testing.T, l, more []series.Sample, retain int, want api.Errno) {
	t.Helper()
	if got, e := series.Add(l, more, retain); e != want || len(got) > 0 {
		t.Fatalf("Add of %v, %v, %d: %v, %d, not %d", l, more, retain, got, e, want)
	}
	add(t, l, more, retain)
}

// within holds what Range tells against ranged, and tells it.
func within(t *testing.T, l []series.Sample, from, to int64) []series.Sample {
	t.Helper()
	got, want := series.Range(l, from, to), ranged(l, from, to)
	if !slices.Equal(got, want) {
		t.Fatalf("Range of %v from %d to %d: %v, not %v", l, from, to, got, want)
	}
	return got
}

// those holds that Range tells those at just these places of l.
func those(t *testing.T, l []series.Sample, from, to int64, places ...int) {
	t.Helper()
	var want []series.Sample
	for _, i := range places {
		want = append(want, l[i])
	}
	if got := within(t, l, from, to); !slices.Equal(got, want) {
		t.Fatalf("Range of %v from %d to %d: %v, not %v", l, from, to, got, want)
	}
}

// last holds what Last tells.
func last(t *testing.T, l []series.Sample) {
	t.Helper()
	var want series.Sample
	for _, s := range l {
		want = s
	}
	if got, ok := series.Last(l); got != want || ok != (len(l) > 0) {
		t.Fatalf("Last of %v: %v, %v", l, got, ok)
	}
}

func TestExample(t *testing.T) {
	refused(t, at(5), at(5), 9, api.EORDER)
	for retain := 1; retain <= most; retain++ {
		refused(t, at(5), at(5), retain, api.EORDER)
	}
}

func TestGood(t *testing.T) {
	for _, l := range [][]series.Sample{
		nil, {}, at(5), at(0), at(low), at(top), at(1, 2), at(-2, -1), at(-1, 0, 1), at(1, 2, 3), at(1, 100, 101),
		at(low, top), at(low, low+1), at(top-1, top), at(low, 0, top), at(low, -1, 0, 1, top), at(-1<<62-1, 1<<62),
		{{T: 1, V: 9}, {T: 2, V: 9}, {T: 3, V: 8}}, {{T: 1, V: top}, {T: 2, V: low}}, // V may be any
	} {
		good(t, l, true)
	}
	for _, l := range [][]series.Sample{
		at(5, 5), at(5, 4), at(0, 0), at(1, -1), at(top, low), at(low, low), at(top, top), at(low+1, low), at(top, top-1),
		at(5, 4, 9), at(1, 5, 5), at(1, 5, 4), at(5, 5, 6), at(3, 1, 2), at(1, 3, 2), at(2, 3, 1), at(1, 2, 1, 2), at(low, top, low), at(top, low, top),
		{{T: 1, V: 1}, {T: 1, V: 2}}, {{T: 2, V: 1}, {T: 1, V: 2}}, // V does not make up for T
	} {
		good(t, l, false)
	}
}

// All lists of up to five of small times, and of up to three of times at the edges.
func TestGoodOfAll(t *testing.T) {
	for _, l := range lists(5, -2, -1, 0, 1, 2) {
		good(t, l, may(l))
	}
	for _, l := range lists(3, hard()...) {
		good(t, l, may(l))
	}
}

// One that is no higher than the one ahead, at each place of lists of any length.
func TestOneIsNotInOrder(t *testing.T) {
	for _, n := range []int{2, 3, 4, 15, 16, 17, 63, 64, 65, 200} {
		for _, step := range []int64{1, 2, 1 << 40} {
			l := rising(n, -50, step)
			good(t, l, true)
			for i := 1; i < n; i++ {
				for _, lower := range []int64{0, 1, 1000} {
					m := slices.Clone(l)
					m[i].T = m[i-1].T - lower
					good(t, m, false)
					refused(t, m, nil, 64, api.EARG)
					refused(t, nil, m, 64, api.EORDER)
				}
			}
		}
	}
}

func TestAdd(t *testing.T) {
	for _, nothing := range [][]series.Sample{nil, {}} {
		for _, none := range [][]series.Sample{nil, {}} {
			kept(t, nothing, none, 1, nil)
			kept(t, nothing, none, 64, nil)
		}
		kept(t, nothing, at(5), 1, at(5))
		kept(t, nothing, at(5, 6, 9), 64, at(5, 6, 9))
		kept(t, at(5), nothing, 1, at(5))
		kept(t, at(5, 6, 9), nothing, 64, at(5, 6, 9))
	}
	one, two, three := series.Sample{T: 1, V: -7}, series.Sample{T: 2, V: top}, series.Sample{T: 30, V: low}
	all := []series.Sample{one, two, three}
	kept(t, all[:1], all[1:2], 9, all[:2])
	kept(t, all[:2], all[2:], 9, all)
	kept(t, all[:1], all[1:], 9, all)
	kept(t, all[:1], all[1:], 3, all)
	kept(t, all[:1], all[1:], 2, all[1:])
	kept(t, all[:1], all[1:], 1, all[2:])
	kept(t, all[:2], all[2:], 2, all[1:])
	kept(t, all, nil, 2, all[1:])
	kept(t, all, nil, 1, all[2:])
	kept(t, nil, all, 2, all[1:])
	kept(t, nil, all, 1, all[2:])
	for _, retain := range []int{2, 3, 63, 64} {
		kept(t, at(low), at(top), retain, []series.Sample{at(low)[0], at(top)[0]})
		kept(t, at(top-1), at(top), retain, []series.Sample{at(top - 1)[0], at(top)[0]})
		kept(t, at(low), at(low+1), retain, []series.Sample{at(low)[0], at(low + 1)[0]})
		kept(t, at(-1), at(0), retain, []series.Sample{at(-1)[0], at(0)[0]})
	}
	kept(t, at(low), at(top), 1, at(top))
}

// All lists of up to three small times behind all such, of each small retain.
func TestAddOfAll(t *testing.T) {
	l := lists(3, -1, 0, 1, 2, 3)
	for _, ahead := range l {
		for _, behind := range l {
			for retain := -1; retain <= 7; retain++ {
				add(t, ahead, behind, retain)
			}
		}
	}
}

// All pairs of times at the edges, one behind the other, and in one list.
func TestAddOfHardTimes(t *testing.T) {
	for _, a := range hard() {
		for _, b := range hard() {
			for _, retain := range []int{0, 1, 2, 64, 65} {
				add(t, at(a), at(b), retain)
				add(t, nil, at(a, b), retain)
				add(t, at(a, b), nil, retain)
				add(t, at(low, a), at(b, top), retain)
			}
		}
	}
}

// Just as many as there are, one fewer, one more, and every other retain, however they are parted.
func TestRetain(t *testing.T) {
	for n := range 140 {
		all := rising(n, -60, 3)
		for retain := 1; retain <= most; retain++ {
			if n > 70 && retain%9 != 1 && n-retain > 1 {
				continue
			}
			for _, ahead := range []int{0, 1, n / 2, n - retain, n - retain - 1, n - retain + 1, n - 1, n} {
				if ahead >= 0 && ahead <= n {
					kept(t, all[:ahead], all[ahead:], retain, all[max(0, n-retain):])
				}
			}
		}
	}
}

// Many more than are retained, in either list.
func TestRetainOfVeryMany(t *testing.T) {
	all := rising(100000, -70000, 1)
	for _, ahead := range []int{0, 1, 64, 50000, 99936, 99999, 100000} {
		for _, retain := range []int{1, 2, 63, 64} {
			got, e := series.Add(all[:ahead], all[ahead:], retain)
			if e != api.OK || !slices.Equal(got, all[100000-retain:]) {
				t.Fatalf("Add of very many: %v, %d", got, e)
			}
		}
	}
}

// Again and again, one and several at once, and now and then some that are refused:
// the last retain of all that were added are there.
func TestAgainAndAgain(t *testing.T) {
	for retain := 1; retain <= most; retain++ {
		for _, many := range []int{1, 2, 3, 16, 100} {
			var l, all []series.Sample
			next := int64(-40)
			for range 40 {
				more := rising(many, next, 2)
				next += 2 * int64(many)
				all = append(all, more...)
				l = add(t, l, more, retain)
				if !slices.Equal(l, all[max(0, len(all)-retain):]) || !series.Good(l) || len(l) > retain {
					t.Fatalf("%d at once, %d retained: %v", many, retain, l)
				}
				refused(t, l, more[len(more)-1:], retain, api.EORDER)
				refused(t, l, at(next-3), retain, api.EORDER)
				if same := add(t, l, nil, retain); !slices.Equal(same, l) {
					t.Fatalf("none behind %v: %v", l, same)
				}
				last(t, l)
			}
		}
	}
}

// An l that is not Good, whatever stands behind it and whatever is retained: also if what is
// wrong would go, and if more is not in order either.
func TestAddToOneThatIsNotGood(t *testing.T) {
	for _, l := range [][]series.Sample{at(5, 5), at(5, 4), at(3, 2), at(5, 5, 6, 7, 8), at(9, 1, 2, 3), at(1, 2, 2), at(top, low), at(low, low), append(at(7, 6), rising(90, 8, 1)...)} {
		for _, more := range [][]series.Sample{nil, {}, at(100), at(100, 101), at(1), at(5), at(5, 5), at(101, 100), at(low), at(top)} {
			for _, retain := range []int{1, 2, 3, 63, 64, 0, -1, 65, math.MinInt, math.MaxInt} {
				refused(t, l, more, retain, api.EARG)
			}
		}
	}
}

func TestRetainRefused(t *testing.T) {
	for _, retain := range []int{0, -1, -2, -64, most + 1, most + 2, 1 << 32, 1<<32 + 1, math.MinInt, math.MinInt + 1, math.MaxInt, math.MaxInt - 1} {
		for _, l := range [][]series.Sample{nil, {}, at(1), at(1, 2, 3), rising(65, 0, 1)} {
			for _, more := range [][]series.Sample{nil, at(1000), at(1000, 1001), at(1), at(0), at(1001, 1000)} { // in order, and not
				refused(t, l, more, retain, api.EARG)
			}
		}
	}
	for _, retain := range numbers() {
		for _, more := range [][]series.Sample{nil, at(4), at(4, 5), at(3), at(2), at(5, 5)} {
			if retain < 1 || retain > most {
				refused(t, at(1, 2, 3), more, retain, api.EARG)
			}
			add(t, at(1, 2, 3), more, retain)
			add(t, nil, more, retain)
			add(t, rising(66, -90, 1), more, retain)
		}
	}
}

func TestOrderRefused(t *testing.T) {
	for _, retain := range []int{1, 2, 3, 63, 64} {
		for _, more := range [][]series.Sample{at(3, 2), at(5, 5), at(1, 2, 2, 9), at(1, 5, 4, 9, 10), at(top, low), at(low, low)} {
			refused(t, nil, more, retain, api.EORDER) // not Good by itself
			refused(t, at(0), more, retain, api.EORDER)
			refused(t, at(low), more, retain, api.EORDER)
		}
		for _, more := range [][]series.Sample{at(7), at(6), at(5), at(4), at(low), at(7, 8, 9), at(6, 7, 8), at(5, 8), at(low, top), at(-1, 0, 1, 20, 21)} {
			refused(t, at(5, 7), more, retain, api.EORDER) // the first one equal to the last of l, or below it
			refused(t, at(7), more, retain, api.EORDER)
		}
		kept(t, at(5), at(8), retain, []series.Sample{at(5)[0], at(8)[0]}[max(0, 2-retain):])
		refused(t, at(top), at(top), retain, api.EORDER)
		refused(t, at(top), at(low), retain, api.EORDER)
		refused(t, at(low), at(low), retain, api.EORDER)
		refused(t, at(low+1), at(low), retain, api.EORDER)
	}
}

// One fault at each place of more: also where all of it, or all but the last ones, would go.
func TestOneOfMoreIsNotInOrder(t *testing.T) {
	for _, n := range []int{1, 2, 5, 16, 70, 130} {
		more := rising(n, 100, 5)
		for i := range more {
			for _, lower := range []int64{0, 1, 99} {
				m := slices.Clone(more)
				ahead := int64(99)
				if i > 0 {
					ahead = m[i-1].T
				}
				m[i].T = ahead - lower
				for _, retain := range []int{1, 2, n, 64} {
					if retain <= most {
						refused(t, at(98, 99), m, retain, api.EORDER)
						refused(t, rising(64, 36, 1), m, retain, api.EORDER)
					}
				}
			}
		}
	}
}

func TestRange(t *testing.T) {
	l := at(-9, -3, 0, 1, 2, 7, 20)
	those(t, l, 0, 7, 2, 3, 4, 5)                   // some in the middle, from just T to just T
	those(t, l, -9, 20, 0, 1, 2, 3, 4, 5, 6)        // all, just
	those(t, l, -10, 21, 0, 1, 2, 3, 4, 5, 6)       // all, with some room
	those(t, l, low, top, 0, 1, 2, 3, 4, 5, 6)      // all there can be
	those(t, l, -8, 19, 1, 2, 3, 4, 5)              // all but the ends
	those(t, l, 7, 7, 5)                            // one
	those(t, l, -9, -9, 0)                          // the first
	those(t, l, 20, 20, 6)                          // the last
	those(t, l, low, -9, 0)                         // from the least number on
	those(t, l, 20, top, 6)                         // to the greatest
	those(t, l, 3, 6)                               // between two
	those(t, l, 5, 5)                               // between two, equal
	those(t, l, low, -10)                           // ahead of all
	those(t, l, 21, top)                            // behind all
	those(t, l, low, low)                           // at the least number
	those(t, l, top, top)                           // at the greatest
	those(t, l, 7, 0)                               // from above to
	those(t, l, 1, 0)                               // so, by one
	those(t, l, 20, -9)                             // so, by all
	those(t, l, top, low)                           // so, by as much as there can be
	those(t, l, 6, 3)                               // so, between two
	those(t, at(low, top), low, low, 0)             // a T at the least number
	those(t, at(low, top), top, top, 1)             // a T at the greatest
	those(t, at(low, top), low, top, 0, 1)          // both
	those(t, at(low, top), low+1, top-1)            // neither
	those(t, at(low, 0, top), low+1, top, 1, 2)     // all but the least
	those(t, at(low, 0, top), low, top-1, 0, 1)     // all but the greatest
	those(t, at(low, 0, top), -1<<62, 1<<62, 1)     // far apart
	those(t, at(low, low+1), low+1, top, 1)         // neighbours at the least
	those(t, at(top-1, top), low, top-1, 0)         // neighbours at the greatest
	those(t, at(-1, 0, 1), 0, 0, 1)                 // neighbours at nought
	those(t, []series.Sample{{T: 1, V: 50}}, 2, 99) // V does not make up for T
	for _, none := range [][]series.Sample{nil, {}} {
		for _, from := range hard() {
			those(t, none, from, from)
			those(t, none, from, top)
			those(t, none, low, from)
		}
	}
}

// Lists that are not Good: their samples in their own order, as often as they are there.
func TestRangeOfAnyOrder(t *testing.T) {
	l := at(5, 1, 5, 3, 9, 5, 0, 5)
	those(t, l, 3, 5, 0, 2, 3, 5, 7)
	those(t, l, 5, 5, 0, 2, 5, 7)
	those(t, l, 0, 1, 1, 6)
	those(t, l, 6, 9, 4)
	those(t, l, low, top, 0, 1, 2, 3, 4, 5, 6, 7)
	those(t, l, 6, 8)
	those(t, l, 5, 3)
	those(t, at(9, 8, 7, 6), 7, 8, 1, 2)
	those(t, at(top, low, top), top, top, 0, 2)
	those(t, at(top, low, top), low, 0, 1)
	for _, l := range lists(4, -1, 0, 1, 2) {
		for from := int64(-2); from <= 3; from++ {
			for to := int64(-2); to <= 3; to++ {
				within(t, l, from, to)
			}
			within(t, l, from, top)
			within(t, l, low, from)
		}
	}
}

// Every from and every to about each place of lists, and at the edges.
func TestRangeOfAllBounds(t *testing.T) {
	for _, l := range [][]series.Sample{at(hard()...), rising(9, -8, 2), rising(64, -32, 1), rising(3, low, 1), rising(3, top-2, 1)} {
		bounds := hard()
		for _, s := range l {
			bounds = append(bounds, s.T, max(s.T, low+1)-1, min(s.T, top-1)+1)
		}
		slices.Sort(bounds)
		bounds = slices.Compact(bounds)
		down := slices.Clone(l)
		slices.Reverse(down)
		for _, from := range bounds {
			for _, to := range bounds {
				within(t, l, from, to)
				within(t, down, from, to)
			}
		}
	}
	for _, n := range []int{1, 63, 64, 65, 1000, 100000} {
		l := rising(n, 0, 2)
		within(t, l, low, top)
		within(t, l, int64(n)/2, int64(n))
		within(t, l, 2*int64(n)-2, top)
	}
}

func TestLast(t *testing.T) {
	for _, none := range [][]series.Sample{nil, {}, at(1, 2, 3)[:0]} {
		if s, ok := series.Last(none); s != (series.Sample{}) || ok {
			t.Errorf("Last of none: %v, %v", s, ok)
		}
	}
	five, nought := series.Sample{T: 5, V: -6}, series.Sample{}
	for _, l := range [][]series.Sample{{five}, {nought, five}, {{T: 9, V: 9}, five}, {five, five}, {{T: low, V: top}, {T: top, V: low}, five}} {
		if s, ok := series.Last(l); s != five || !ok {
			t.Errorf("Last of %v: %v, %v", l, s, ok)
		}
	}
	if s, ok := series.Last([]series.Sample{five, nought}); s != nought || !ok { // all nought, but there
		t.Errorf("Last of nought: %v, %v", s, ok)
	}
	for _, l := range lists(3, hard()[:9]...) {
		last(t, l)
	}
	for n := range 200 {
		last(t, rising(n, -100, 1))
		last(t, rising(200, -100, 1)[:n]) // what stands in the spare room does not count
	}
}

// full is room for n and some more, with something in all of it.
func full(n int) []series.Sample {
	return rising(n+7, 10, 3)
}

// What was handed in is as it was, spare room included, refused or not; also where more
// lies in the spare room of l.
func TestHandedInIsNotChanged(t *testing.T) {
	for _, n := range []int{0, 1, 2, 7, 63, 64, 65, 130} {
		for _, m := range []int{0, 1, 5, 64, 100} {
			l, more := full(n), rising(m+7, 1000, 1)
			before, beside := slices.Clone(l), slices.Clone(more)
			for _, retain := range []int{1, 2, n, n + m, n + m - 1, 64, 0, -1, 65, math.MinInt} {
				series.Add(l[:n], more[:m], retain)
				series.Add(more[:m], l[:n], retain)
				series.Add(l[:n], l[:n], retain)
				series.Add(l[:n], l[n:], retain)
				series.Good(l[:n])
				series.Range(l[:n], 13, 100)
				series.Range(l[:n], low, top)
				series.Range(l[:n], 9, 8)
				series.Last(l[:n])
			}
			if !slices.Equal(l, before) || !slices.Equal(more, beside) {
				t.Fatalf("what was handed in of %d and %d, or the room behind, is changed", n, m)
			}
		}
	}
}

// overwrite writes all over an answer, spare room included.
func overwrite(l []series.Sample) {
	l = l[:cap(l)]
	for i := range l {
		l[i] = series.Sample{T: -99, V: -99}
	}
}

// What Add told may be written over, spare room included, and stays as it was when what was
// handed in is written over.
func TestAddIsNewMemory(t *testing.T) {
	for _, n := range []int{0, 1, 2, 7, 63, 64, 65, 130} {
		for _, m := range []int{0, 1, 5, 64, 100} {
			for _, retain := range []int{1, 2, max(1, min(n+m, most)), 64} {
				room := full(n + m)
				before := slices.Clone(room)
				want, _ := added(before[:n], before[n:n+m], retain)
				first, e := series.Add(room[:n], room[n:n+m], retain)
				second, f := series.Add(room[:n], room[n:n+m], retain)
				if e != api.OK || f != api.OK || !slices.Equal(first, want) {
					t.Fatalf("Add of %d and %d: %d, %d", n, m, e, f)
				}
				overwrite(first)
				if !slices.Equal(second, want) || !slices.Equal(room, before) {
					t.Fatalf("Add of %d and %d, %d retained, shares memory", n, m, retain)
				}
				add(t, room[:n], room[n:n+m], retain)
				overwrite(room)
				if !slices.Equal(second, want) {
					t.Fatalf("Add kept the %d and %d that it was handed", n, m)
				}
			}
		}
	}
}

// So of what Range told.
func TestRangeIsNewMemory(t *testing.T) {
	for _, n := range []int{0, 1, 2, 7, 64, 130} {
		for from := range n + 1 {
			for _, to := range []int{from - 1, from, from + 1, n / 2, n - 1, n + 6} {
				room := full(n)
				before := slices.Clone(room)
				least, greatest := int64(10+3*from), int64(10+3*to)
				want := ranged(before[:n], least, greatest)
				first, second := series.Range(room[:n], least, greatest), series.Range(room[:n], least, greatest)
				if !slices.Equal(first, want) {
					t.Fatalf("Range of %d, from place %d to %d: %v", n, from, to, first)
				}
				overwrite(first)
				if !slices.Equal(second, want) || !slices.Equal(room, before) {
					t.Fatalf("Range of %d, from place %d to %d, shares memory", n, from, to)
				}
				overwrite(room)
				if !slices.Equal(second, want) {
					t.Fatalf("Range kept the %d that it was handed", n)
				}
			}
		}
	}
}

// Lists at random, mostly rising and mostly in order, against the other reckoning.
func TestAnyLists(t *testing.T) {
	r := rand.New(rand.NewSource(17))
	some := func(from int64) []series.Sample {
		var l []series.Sample
		x := from
		for range r.Intn(1 + r.Intn(80)) {
			x += 1 + r.Int63n(1+r.Int63n(1<<r.Intn(50)))
			if r.Intn(200) == 0 {
				x -= r.Int63n(1 << r.Intn(20))
			}
			l = append(l, series.Sample{T: x, V: int64(r.Uint64())})
		}
		return l
	}
	for range 20000 {
		l := some(-r.Int63n(1 << r.Intn(50)))
		end, _ := series.Last(l)
		more := some(end.T - r.Int63n(2)*r.Int63n(9))
		retain := 1 + r.Intn(most)
		if r.Intn(50) == 0 {
			retain = int(r.Uint64()) >> r.Intn(64)
		}
		add(t, l, more, retain)
		good(t, l, may(l))
		last(t, more)
		all := append(slices.Clone(l), more...)
		for range 3 {
			from, to := int64(r.Uint64())>>r.Intn(64), int64(r.Uint64())>>r.Intn(64)
			if len(all) > 0 {
				from, to = all[r.Intn(len(all))].T+r.Int63n(3)-1, all[r.Intn(len(all))].T+r.Int63n(3)-1
			}
			within(t, all, from, to)
		}
	}
}

// Nothing is kept from call to call: the same is told of the same, whatever is asked between.
func TestKeepsNothing(t *testing.T) {
	l, more := at(1, 2, 3), at(4, 9)
	for range 5 {
		kept(t, l, more, 4, []series.Sample{l[1], l[2], more[0], more[1]})
		refused(t, more, l, 4, api.EORDER)
		refused(t, l, more, 0, api.EARG)
		kept(t, nil, more, 4, more)
		those(t, l, 2, 9, 1, 2)
		those(t, more, 2, 8, 0)
		good(t, l, true)
		good(t, at(2, 2), false)
		last(t, l)
		last(t, nil)
	}
}

func TestSideBySide(t *testing.T) {
	wrong := make([]bool, 8)
	shared := rising(40, 0, 2)
	var all sync.WaitGroup
	for i := range wrong {
		all.Go(func() {
			for n := range int64(2000) {
				more := rising(i+1, 80+n, 1)
				got, e := series.Add(shared, more, 20)
				want, f := added(shared, more, 20)
				if e != f || !slices.Equal(got, want) || !slices.Equal(series.Range(shared, n%80, 60), ranged(shared, n%80, 60)) || !series.Good(shared) {
					wrong[i] = true
				}
				overwrite(got)
			}
		})
	}
	all.Wait()
	if slices.Contains(wrong, true) {
		t.Errorf("workers that were told another thing: %v", wrong)
	}
}
