package agg_test

import (
	"bytes"
	"math"
	"math/big"
	"math/rand"
	"slices"
	"strings"
	"sync"
	"testing"

	"warrener/agg"
	"warrener/api"
	"warrener/series"
)

const (
	low = math.MinInt64
	top = math.MaxInt64
)

// of are samples of those numbers, at times that rise.
func of(numbers ...int64) []series.Sample {
	var l []series.Sample
	for i, v := range numbers {
		l = append(l, series.Sample{T: int64(i)*3 - 7, V: v})
	}
	return l
}

// times are n samples of one number.
func times(n int, v int64) []series.Sample {
	return of(slices.Repeat([]int64{v}, n)...)
}

// hard are numbers that stand about the edges: of the type, of its halves, and of nought.
func hard() []int64 {
	l := []int64{low, low + 1, low + 2, low / 2, low/2 - 1, low/2 + 1, top / 2, top/2 + 1, top/2 + 2, top - 2, top - 1, top}
	for x := int64(-3); x <= 3; x++ {
		l = append(l, x)
	}
	for _, bit := range []int{7, 8, 15, 16, 31, 32, 33, 53, 62} {
		for off := int64(-1); off <= 1; off++ {
			l = append(l, 1<<bit+off, -(1<<bit)+off)
		}
	}
	slices.Sort(l)
	return slices.Compact(l)
}

// wants are numbers that may be a want, and such as may not, near and far.
func wants() []int {
	l := []int{math.MinInt, math.MinInt + 1, math.MinInt + 2, math.MinInt + 31, math.MinInt32, math.MaxInt32, math.MaxUint32, math.MaxInt - 1, math.MaxInt}
	for n := -70; n <= 300; n++ {
		l = append(l, n)
	}
	for bit := 9; bit < 63; bit++ {
		for _, off := range []int{-1, 0, 1, 2, 3, 31} {
			l = append(l, 1<<bit+off, -1<<bit+off)
		}
	}
	return l
}

// fits tells a number of any size in 64 bits, and true, if it is one of these.
func fits(n *big.Int) (int64, bool) {
	if n.Cmp(big.NewInt(low)) < 0 || n.Cmp(big.NewInt(top)) > 0 {
		return 0, false
	}
	return n.Int64(), true
}

// told is what Of should tell, in another way than the program's own.
func told(l []series.Sample) agg.Agg {
	if len(l) == 0 {
		return agg.Agg{}
	}
	sum := new(big.Int)
	var sorted []int64
	for _, s := range l {
		sum.Add(sum, big.NewInt(s.V))
		sorted = append(sorted, s.V)
	}
	slices.Sort(sorted)
	a := agg.Agg{Count: len(sorted), Min: sorted[0], Max: sorted[len(sorted)-1], Last: l[len(l)-1].V}
	n, ok := fits(sum)
	a.Sum, a.Over = n, !ok
	return a
}

// joined is what Join should tell.
func joined(a, b agg.Agg) agg.Agg {
	switch {
	case a.Count == 0:
		return b
	case b.Count == 0:
		return a
	}
	// The least and the greatest of both are those of any numbers that have them.
	both := told(of(a.Min, a.Max, b.Min, b.Max, b.Last))
	both.Count = a.Count + b.Count
	n, ok := fits(new(big.Int).Add(big.NewInt(a.Sum), big.NewInt(b.Sum)))
	if a.Over || b.Over {
		n, ok = 0, false
	}
	both.Sum, both.Over = n, !ok
	return both
}

// eight are a number's eight bytes, by a number of any size: 2^64 more of one below 0.
func eight(n int64) []byte {
	x := big.NewInt(n)
	if n < 0 {
		x.Add(x, new(big.Int).Lsh(big.NewInt(1), 64))
	}
	return x.FillBytes(make([]byte, 8))
}

// written is what Put should tell.
func written(a agg.Agg, want int) ([]byte, api.Errno) {
	if want <= 0 || want >= 32 {
		return nil, 1
	}
	has := func(bit int) bool { return want/bit%2 == 1 }
	if a.Over && has(2) {
		return nil, 9
	}
	var b []byte
	for _, c := range []struct {
		bit int
		n   int64
	}{{1, int64(a.Count)}, {2, a.Sum}, {4, a.Min}, {8, a.Max}, {16, a.Last}} {
		if has(c.bit) {
			b = append(b, eight(c.n)...)
		}
	}
	return b, 0
}

// texted is what Text should tell.
func texted(a agg.Agg) string {
	ten := func(n int64) string { return big.NewInt(n).String() }
	sum := ten(a.Sum)
	if a.Over {
		sum = "over"
	}
	return "count " + ten(int64(a.Count)) + " sum " + sum + " min " + ten(a.Min) + " max " + ten(a.Max) + " last " + ten(a.Last)
}

// tells holds that Of tells just that.
func tells(t *testing.T, l []series.Sample, want agg.Agg) {
	t.Helper()
	if got := agg.Of(l); got != want {
		t.Fatalf("Of of %v: %+v, not %+v", l, got, want)
	}
	if other := told(l); other != want {
		t.Fatalf("the test's own Of of %v: %+v, not %+v", l, other, want)
	}
}

// joins holds that Join tells just that.
func joins(t *testing.T, a, b, want agg.Agg) {
	t.Helper()
	if got := agg.Join(a, b); got != want {
		t.Fatalf("Join of %+v and %+v: %+v, not %+v", a, b, got, want)
	}
}

// puts holds what Put tells against written, and tells it.
func puts(t *testing.T, a agg.Agg, want int) []byte {
	t.Helper()
	b, f := written(a, want)
	got, e := agg.Put(a, want)
	if e != f || !bytes.Equal(got, b) || e != api.OK && len(got) > 0 {
		t.Fatalf("Put of %+v, %d: %x, %d, not %x, %d", a, want, got, e, b, f)
	}
	return got
}

// bytesOf holds that Put tells just those bytes.
func bytesOf(t *testing.T, a agg.Agg, want int, b ...byte) {
	t.Helper()
	if got := puts(t, a, want); !bytes.Equal(got, b) {
		t.Fatalf("Put of %+v, %d: %x, not %x", a, want, got, b)
	}
}

// refused holds that Put tells just that error, and nothing beside it.
func refused(t *testing.T, a agg.Agg, want int, f api.Errno) {
	t.Helper()
	if b, e := agg.Put(a, want); e != f || len(b) > 0 {
		t.Fatalf("Put of %+v, %d: %x, %d, not %d", a, want, b, e, f)
	}
}

// reads holds that Text tells just that.
func reads(t *testing.T, a agg.Agg, want string) {
	t.Helper()
	if got := agg.Text(a); got != want || texted(a) != want {
		t.Fatalf("Text of %+v: %q, not %q", a, got, want)
	}
}

// lists are all lists of at most so many of the given numbers.
func lists(many int, numbers ...int64) [][]series.Sample {
	l := [][]series.Sample{nil}
	for from, n := 0, 0; n < many; n++ {
		to := len(l)
		for _, ahead := range l[from:to] {
			for _, v := range numbers {
				l = append(l, append(slices.Clone(ahead), series.Sample{T: int64(n), V: v}))
			}
		}
		from = to
	}
	return l
}

// strange are Aggs that no Of tells, and some that Of does.
func strange() []agg.Agg {
	l := []agg.Agg{
		{}, {Over: true}, {Sum: 5}, {Sum: 5, Over: true}, {Count: -1}, {Count: -1, Sum: 7, Min: 9, Max: 3, Last: 100}, {Count: 1, Min: 5, Max: -5},
		{Count: math.MinInt, Sum: low, Min: low, Max: low, Last: low}, {Count: math.MaxInt, Sum: top, Min: top, Max: top, Last: top},
		{Count: math.MaxInt, Sum: low, Min: top, Max: low, Last: -1, Over: true}, {Count: 3, Sum: top, Over: true}, {Count: 3, Sum: low, Min: 1, Max: 2, Last: 3, Over: true},
	}
	for _, m := range [][]series.Sample{of(5), of(1, -3), of(top, 1), of(low, -1), of(low), of(top), of(-1, 0, 1), of(top, top, low)} {
		l = append(l, agg.Of(m))
	}
	return l
}

func TestExample(t *testing.T) {
	a := agg.Of(of(1, -3))
	tells(t, of(1, -3), agg.Agg{Count: 2, Sum: -2, Min: -3, Max: 1, Last: -3})
	reads(t, a, "count 2 sum -2 min -3 max 1 last -3")
}

func TestOf(t *testing.T) {
	for _, none := range [][]series.Sample{nil, {}, of(1, 2, 3)[:0]} {
		tells(t, none, agg.Agg{})
	}
	for _, v := range hard() {
		tells(t, of(v), agg.Agg{Count: 1, Sum: v, Min: v, Max: v, Last: v})
	}
	tells(t, of(1, 2, 3, 10), agg.Agg{Count: 4, Sum: 16, Min: 1, Max: 10, Last: 10}) // rising
	tells(t, of(10, 3, 2, 1), agg.Agg{Count: 4, Sum: 16, Min: 1, Max: 10, Last: 1})  // falling
	tells(t, of(2, 10, 1, 3), agg.Agg{Count: 4, Sum: 16, Min: 1, Max: 10, Last: 3})  // both ends inside
	tells(t, of(1, 3, 2, 10), agg.Agg{Count: 4, Sum: 16, Min: 1, Max: 10, Last: 10})
	tells(t, of(-9, -5, -1), agg.Agg{Count: 3, Sum: -15, Min: -9, Max: -1, Last: -1}) // all below 0
	tells(t, of(-1, -5, -9), agg.Agg{Count: 3, Sum: -15, Min: -9, Max: -1, Last: -9})
	tells(t, of(-5, -9, -1, -7), agg.Agg{Count: 4, Sum: -22, Min: -9, Max: -1, Last: -7})
	tells(t, of(-4, 0, 9, -2), agg.Agg{Count: 4, Sum: 3, Min: -4, Max: 9, Last: -2}) // below and above
	tells(t, of(0, 0), agg.Agg{Count: 2})
	tells(t, of(7, -7), agg.Agg{Count: 2, Min: -7, Max: 7, Last: -7})
	tells(t, of(5, 5, 5), agg.Agg{Count: 3, Sum: 15, Min: 5, Max: 5, Last: 5}) // one number thrice counts thrice
}

// The last one is the one at the list's end, whatever its time; times count for nothing.
func TestTimesDoNotCount(t *testing.T) {
	tells(t, []series.Sample{{T: 9, V: 1}, {T: 3, V: 2}, {T: 5, V: 3}}, agg.Agg{Count: 3, Sum: 6, Min: 1, Max: 3, Last: 3})
	tells(t, []series.Sample{{T: 9, V: 4}, {T: 9, V: 2}, {T: 9, V: 3}}, agg.Agg{Count: 3, Sum: 9, Min: 2, Max: 4, Last: 3})
	tells(t, []series.Sample{{T: top, V: 4}, {T: low, V: -2}}, agg.Agg{Count: 2, Sum: 2, Min: -2, Max: 4, Last: -2})
	tells(t, []series.Sample{{T: low, V: 0}}, agg.Agg{Count: 1})
}

func TestSumsAtTheEdges(t *testing.T) {
	for _, c := range []struct {
		l   []series.Sample
		sum int64
	}{
		{of(top, 0), top}, {of(top-1, 1), top}, {of(1, top-1), top}, {of(1<<62, 1<<62-1), top}, {of(top-5, 2, 3), top}, // just the greatest
		{of(low, 0), low}, {of(low+1, -1), low}, {of(-1, low+1), low}, {of(-1<<62, -1<<62), low}, {of(low+5, -2, -3), low}, // just the least
		{of(low, top), -1}, {of(top, low), -1}, {of(low+1, top), 0}, {of(top-1, low), -2},
	} {
		a := told(c.l)
		a.Sum, a.Over = c.sum, false
		tells(t, c.l, a)
	}
	for _, l := range [][]series.Sample{
		of(top, 1), of(1, top), of(1<<62, 1<<62), of(top-5, 3, 3), // one past the greatest
		of(low, -1), of(-1, low), of(-1<<62, -1<<62-1), of(low+5, -3, -3), // one past the least
		of(top, top), of(low, low), of(top, top, 2), of(top, top, top), of(low, low, low), // 2^64 - 2, -2^64, 2^64 just, and more
		of(low, low, top), of(top, top, low, 2), of(low, top, top, 3), of(low, low, top, -1),
		times(4, 1<<62), times(4, -1<<62), times(8, 1<<61), times(1000, top), times(1000, low), times(4096, top), times(4096, low),
	} {
		a := told(l)
		if !a.Over || a.Sum != 0 || a.Count != len(l) || a.Last != l[len(l)-1].V {
			t.Fatalf("the test's own Of of %v: %+v", l, a)
		}
		tells(t, l, a)
	}
}

// Of one that is Over the rest is told as well.
func TestOverTellsTheRest(t *testing.T) {
	tells(t, of(top, 1), agg.Agg{Count: 2, Min: 1, Max: top, Last: 1, Over: true})
	tells(t, of(3, top, -2, 7), agg.Agg{Count: 4, Min: -2, Max: top, Last: 7, Over: true})
	tells(t, of(low, -1), agg.Agg{Count: 2, Min: low, Max: -1, Last: -1, Over: true})
	tells(t, of(-5, 2, low, -4), agg.Agg{Count: 4, Min: low, Max: 2, Last: -4, Over: true})
	tells(t, of(top, 9, top), agg.Agg{Count: 3, Min: 9, Max: top, Last: top, Over: true})
}

// Sums that leave 64 bits on the way and come back, once and several times, by either end.
func TestWhatStandsBetweenDoesNotCount(t *testing.T) {
	for _, c := range []struct {
		l   []series.Sample
		sum int64
	}{
		{of(top, 1, -1), top}, {of(low, -1, 1), low}, {of(top, 5, -9), top - 4}, {of(low, -5, 9), low + 4},
		{of(top, top, low), top - 1}, {of(low, low, top, 1), low}, {of(low, low, top, top), -2}, {of(top, top, low, low), -2},
		{of(top, 1, -1, 1, -1), top}, {of(low, -1, 1, -1, 1), low}, {of(top, 1, -2, low, -5, 6), -1},
		{of(top, top, top, low, low, low), -3}, {of(low, low, low, top, top, top), -3}, {of(top, top, 2, low, low), 0},
		{of(top, 1, low, low, -1, top, 2), 0}, {of(low, -1, top, top, low, 5), 2},
	} {
		a := told(c.l)
		a.Sum, a.Over = c.sum, false
		tells(t, c.l, a)
	}
	for n := 1; n <= 300; n++ { // n rounds up, and as many down: all of them at once, and one by one
		all := slices.Concat(times(n, top), times(n, low))
		tells(t, all, agg.Agg{Count: 2 * n, Sum: -int64(n), Min: low, Max: top, Last: low})
		slices.Reverse(all)
		tells(t, all, agg.Agg{Count: 2 * n, Sum: -int64(n), Min: low, Max: top, Last: top})
		var turns []series.Sample
		for range n {
			turns = append(turns, of(top, top, low, low)...)
		}
		tells(t, turns, agg.Agg{Count: 4 * n, Sum: -2 * int64(n), Min: low, Max: top, Last: low})
		tells(t, turns[:4*n-1], agg.Agg{Count: 4*n - 1, Sum: top - 2*int64(n) + 1, Min: low, Max: top, Last: low})
	}
}

// All lists of up to five small numbers, of up to three at the edges, and of up to six of the
// very ends.
func TestOfAll(t *testing.T) {
	for _, l := range lists(5, -2, -1, 0, 1, 3) {
		tells(t, l, told(l))
	}
	for _, l := range lists(3, hard()...) {
		tells(t, l, told(l))
	}
	for _, l := range lists(6, low, -1, 0, 1, top) {
		tells(t, l, told(l))
	}
}

// The least, the greatest and what makes a sum too great at each place of a long list.
func TestEachPlaceCounts(t *testing.T) {
	for _, n := range []int{1, 2, 3, 15, 16, 17, 64, 65, 200} {
		for i := range n {
			for _, v := range []int64{-100, 100, low, top} {
				l := times(n, 7)
				l[i].V = v
				tells(t, l, told(l))
			}
		}
	}
}

func TestVeryMany(t *testing.T) {
	l := make([]series.Sample, 1<<20)
	for i := range l {
		l[i].V = top - int64(i)
	}
	tells(t, l, agg.Agg{Count: 1 << 20, Min: top - 1<<20 + 1, Max: top, Last: top - 1<<20 + 1, Over: true})
	for i := range l {
		l[i].V = 1<<43 - 1
	}
	tells(t, l, agg.Agg{Count: 1 << 20, Sum: 1<<63 - 1<<20, Min: 1<<43 - 1, Max: 1<<43 - 1, Last: 1<<43 - 1})
	l[7].V += 1 << 20
	tells(t, l, agg.Agg{Count: 1 << 20, Min: 1<<43 - 1, Max: 1<<43 - 1 + 1<<20, Last: 1<<43 - 1, Over: true})
	l[8].V--
	tells(t, l, agg.Agg{Count: 1 << 20, Sum: top, Min: 1<<43 - 2, Max: 1<<43 - 1 + 1<<20, Last: 1<<43 - 1})
}

func TestJoin(t *testing.T) {
	joins(t, agg.Of(of(1, -3)), agg.Of(of(5)), agg.Agg{Count: 3, Sum: 3, Min: -3, Max: 5, Last: 5})
	joins(t, agg.Of(of(5)), agg.Of(of(1, -3)), agg.Agg{Count: 3, Sum: 3, Min: -3, Max: 5, Last: -3}) // the last of b
	joins(t, agg.Of(of(1, 2)), agg.Of(of(3, 4)), agg.Agg{Count: 4, Sum: 10, Min: 1, Max: 4, Last: 4})
	joins(t, agg.Of(of(4, 3)), agg.Of(of(2, 1)), agg.Agg{Count: 4, Sum: 10, Min: 1, Max: 4, Last: 1})
	joins(t, agg.Of(of(-9, 9)), agg.Of(of(2)), agg.Agg{Count: 3, Sum: 2, Min: -9, Max: 9, Last: 2}) // both ends in a
	joins(t, agg.Of(of(2)), agg.Of(of(-9, 9)), agg.Agg{Count: 3, Sum: 2, Min: -9, Max: 9, Last: 9}) // and in b
	joins(t, agg.Of(of(-5)), agg.Of(of(-6)), agg.Agg{Count: 2, Sum: -11, Min: -6, Max: -5, Last: -6})
	joins(t, agg.Of(of(8)), agg.Of(of(0)), agg.Agg{Count: 2, Sum: 8, Min: 0, Max: 8, Last: 0})
	joins(t, agg.Of(of(-8)), agg.Of(of(0)), agg.Agg{Count: 2, Sum: -8, Min: -8, Max: 0, Last: 0})
	joins(t, agg.Of(of(0)), agg.Of(of(8)), agg.Agg{Count: 2, Sum: 8, Min: 0, Max: 8, Last: 8})
	joins(t, agg.Of(of(0)), agg.Of(of(-8)), agg.Agg{Count: 2, Sum: -8, Min: -8, Max: 0, Last: -8})
}

// With a Count of 0 it is the other one, as it is, on either side; also one that is Over.
func TestJoinWithNone(t *testing.T) {
	joins(t, agg.Of(nil), agg.Of(nil), agg.Agg{})
	for _, l := range [][]series.Sample{of(5), of(-5), of(0), of(1, -3), of(low), of(top), of(top, 1), of(low, -1), of(-1, -2), of(3, 4)} {
		a := agg.Of(l)
		joins(t, a, agg.Agg{}, a)
		joins(t, agg.Agg{}, a, a)
		joins(t, a, agg.Agg{Sum: 5, Min: low, Max: top, Last: 8, Over: true}, a) // what no Of tells, but with a Count of 0
		joins(t, agg.Agg{Sum: 5, Min: low, Max: top, Last: 8, Over: true}, a, a)
	}
}

func TestJoinAtTheEdges(t *testing.T) {
	for _, c := range []struct {
		a, b []series.Sample
		sum  int64
	}{
		{of(top), of(0), top}, {of(0), of(top), top}, {of(top - 1), of(1), top}, {of(1), of(top - 1), top}, {of(1 << 62), of(1<<62 - 1), top}, // just fit
		{of(low), of(0), low}, {of(0), of(low), low}, {of(low + 1), of(-1), low}, {of(-1), of(low + 1), low}, {of(-1 << 62), of(-1 << 62), low},
		{of(top), of(low), -1}, {of(low), of(top), -1}, {of(top, -1), of(1), top}, {of(low, 1), of(-1), low},
		{of(top, 1, -1), of(0), top}, {of(low, -1, 1), of(0), low}, // what stands between does not count
	} {
		want := told(slices.Concat(c.a, c.b))
		want.Sum, want.Over = c.sum, false
		joins(t, agg.Of(c.a), agg.Of(c.b), want)
	}
	for _, c := range [][2][]series.Sample{
		{of(top), of(1)}, {of(1), of(top)}, {of(1 << 62), of(1 << 62)}, {of(top), of(top)}, // just do not fit, and far from it
		{of(low), of(-1)}, {of(-1), of(low)}, {of(-1 << 62), of(-1<<62 - 1)}, {of(low), of(low)},
		{of(top-1, 1), of(1, 1)}, {of(low+1, -1), of(-1, -1)}, {of(top, 1, -1), of(1)}, {of(low, -1, 1), of(-1)},
	} {
		want := told(slices.Concat(c[0], c[1]))
		want.Sum, want.Over = 0, true
		joins(t, agg.Of(c[0]), agg.Of(c[1]), want)
	}
}

// One that is Over stays it, ahead, behind and on both sides, also where all of both would fit.
func TestJoinOfOver(t *testing.T) {
	over, under := agg.Of(of(top, 1)), agg.Of(of(low, -1))
	joins(t, over, agg.Of(of(-1)), agg.Agg{Count: 3, Min: -1, Max: top, Last: -1, Over: true})
	joins(t, agg.Of(of(-1)), over, agg.Agg{Count: 3, Min: -1, Max: top, Last: 1, Over: true})
	joins(t, over, agg.Of(of(7)), agg.Agg{Count: 3, Min: 1, Max: top, Last: 7, Over: true})
	joins(t, under, agg.Of(of(5)), agg.Agg{Count: 3, Min: low, Max: 5, Last: 5, Over: true})
	joins(t, agg.Of(of(5)), under, agg.Agg{Count: 3, Min: low, Max: 5, Last: -1, Over: true})
	joins(t, over, under, agg.Agg{Count: 4, Min: low, Max: top, Last: -1, Over: true})
	joins(t, under, over, agg.Agg{Count: 4, Min: low, Max: top, Last: 1, Over: true})
	joins(t, over, over, agg.Agg{Count: 4, Min: 1, Max: top, Last: 1, Over: true})
	joins(t, under, under, agg.Agg{Count: 4, Min: low, Max: -1, Last: -1, Over: true})
}

// A list cut in two at each place, and in three, comes to what it is in one, if no part is Over.
func TestJoinOfParts(t *testing.T) {
	for _, l := range lists(5, low, -3, 0, 4, top) {
		for i := range len(l) + 1 {
			a, b := agg.Of(l[:i]), agg.Of(l[i:])
			want := told(l)
			if a.Count > 0 && b.Count > 0 && (a.Over || b.Over) {
				want.Sum, want.Over = 0, true
			}
			joins(t, a, b, want)
		}
	}
	for _, l := range [][]series.Sample{of(5, -9, 3, 3, 8, -1), of(-4, -4, 7, 100, -100, 0, 2), times(9, -2)} {
		for i := range len(l) + 1 {
			for k := i; k <= len(l); k++ {
				a, b, c := agg.Of(l[:i]), agg.Of(l[i:k]), agg.Of(l[k:])
				joins(t, agg.Join(a, b), c, told(l))
				joins(t, a, agg.Join(b, c), told(l))
			}
		}
	}
}

// All pairs of lists of the hard numbers, and any Agg beside any.
func TestJoinOfAll(t *testing.T) {
	var all []agg.Agg
	for _, l := range lists(1, hard()...) {
		all = append(all, agg.Of(l))
	}
	for _, l := range lists(2, low, low+1, -1<<62, -1, 0, 1, 1<<62, top-1, top) {
		all = append(all, agg.Of(l))
	}
	for _, a := range all {
		for _, b := range all {
			joins(t, a, b, joined(a, b))
		}
	}
	for _, a := range strange() {
		for _, b := range strange() {
			agg.Join(a, b)
		}
	}
}

func TestPut(t *testing.T) {
	a := agg.Agg{Count: 2, Sum: -2, Min: -3, Max: 258, Last: top}
	count, sum := []byte{0, 0, 0, 0, 0, 0, 0, 2}, []byte{255, 255, 255, 255, 255, 255, 255, 254}
	least, most, last := []byte{255, 255, 255, 255, 255, 255, 255, 253}, []byte{0, 0, 0, 0, 0, 0, 1, 2}, []byte{127, 255, 255, 255, 255, 255, 255, 255}
	bytesOf(t, a, 1, count...)
	bytesOf(t, a, 2, sum...)
	bytesOf(t, a, 4, least...)
	bytesOf(t, a, 8, most...)
	bytesOf(t, a, 16, last...)
	bytesOf(t, a, 1+2, slices.Concat(count, sum)...)
	bytesOf(t, a, 1+16, slices.Concat(count, last)...)
	bytesOf(t, a, 4+8, slices.Concat(least, most)...)
	bytesOf(t, a, 2+8+16, slices.Concat(sum, most, last)...)
	bytesOf(t, a, 1+4+8+16, slices.Concat(count, least, most, last)...)
	bytesOf(t, a, 31, slices.Concat(count, sum, least, most, last)...)
	for want := 1; want <= 31; want++ {
		var all []byte
		for i, part := range [][]byte{count, sum, least, most, last} {
			if want&(1<<i) != 0 {
				all = append(all, part...)
			}
		}
		bytesOf(t, a, want, all...)
	}
}

// Each number as each of the five, its eight bytes by themselves and beside the others.
func TestPutOfEachNumber(t *testing.T) {
	bytesOf(t, agg.Agg{Sum: 0x0102030405060708}, 2, 1, 2, 3, 4, 5, 6, 7, 8)
	bytesOf(t, agg.Agg{Sum: -1}, 2, 255, 255, 255, 255, 255, 255, 255, 255)
	bytesOf(t, agg.Agg{Sum: low}, 2, 128, 0, 0, 0, 0, 0, 0, 0)
	bytesOf(t, agg.Agg{Sum: low + 1}, 2, 128, 0, 0, 0, 0, 0, 0, 1)
	bytesOf(t, agg.Agg{Sum: top}, 2, 127, 255, 255, 255, 255, 255, 255, 255)
	bytesOf(t, agg.Agg{Sum: -256}, 2, 255, 255, 255, 255, 255, 255, 255, 0)
	bytesOf(t, agg.Agg{Count: math.MaxInt}, 1, 127, 255, 255, 255, 255, 255, 255, 255)
	bytesOf(t, agg.Agg{}, 31, make([]byte, 40)...)
	for _, n := range hard() {
		for want := 1; want <= 31; want++ {
			puts(t, agg.Agg{Count: int(n), Sum: 1, Min: 2, Max: 3, Last: 4}, want)
			puts(t, agg.Agg{Count: 1, Sum: n, Min: 2, Max: 3, Last: 4}, want)
			puts(t, agg.Agg{Count: 1, Sum: 2, Min: n, Max: 3, Last: 4}, want)
			puts(t, agg.Agg{Count: 1, Sum: 2, Min: 3, Max: n, Last: 4}, want)
			puts(t, agg.Agg{Count: 1, Sum: 2, Min: 3, Max: 4, Last: n}, want)
			puts(t, agg.Agg{Count: int(n), Sum: -n, Min: n + 1, Max: n - 1, Last: ^n}, want)
		}
	}
}

// Each single bit of a number is in its place.
func TestPutOfEachBit(t *testing.T) {
	for bit := range 64 {
		want := make([]byte, 8)
		want[7-bit/8] = 1 << (bit % 8)
		n := int64(uint64(1) << bit)
		bytesOf(t, agg.Agg{Count: int(n)}, 1, want...)
		bytesOf(t, agg.Agg{Sum: n}, 2, want...)
		bytesOf(t, agg.Agg{Min: n}, 4, want...)
		bytesOf(t, agg.Agg{Max: n}, 8, want...)
		bytesOf(t, agg.Agg{Last: n}, 16, want...)
	}
}

func TestPutRefused(t *testing.T) {
	for _, a := range strange() {
		for _, want := range []int{0, -1, -2, -30, -31, -32, 32, 33, 34, 62, 63, 64, 1 << 32, 1<<32 + 1, 1<<32 + 2, math.MinInt, math.MinInt + 1, math.MinInt + 2, math.MaxInt, math.MaxInt - 1} {
			refused(t, a, want, api.EARG)
		}
		for _, want := range wants() {
			if want < 1 || want > 31 {
				refused(t, a, want, api.EARG) // so too of one that is Over, with 2 in it
			}
			puts(t, a, want)
		}
	}
}

// Of one that is Over only the sum may not be wanted.
func TestPutOfOver(t *testing.T) {
	for _, a := range []agg.Agg{agg.Of(of(top, 1)), agg.Of(of(low, -1)), agg.Of(of(top, top, 5)), {Over: true}, {Count: 3, Sum: 9, Over: true}, agg.Join(agg.Of(of(top)), agg.Of(of(1)))} {
		for want := 1; want <= 31; want++ {
			switch want {
			case 2, 3, 6, 7, 10, 11, 14, 15, 18, 19, 22, 23, 26, 27, 30, 31:
				refused(t, a, want, api.EOVER)
			default:
				fine := a
				fine.Sum, fine.Over = 0, false
				bytesOf(t, a, want, puts(t, fine, want)...)
			}
		}
	}
	bytesOf(t, agg.Of(of(top, 1)), 1+4+16, 0, 0, 0, 0, 0, 0, 0, 2, 0, 0, 0, 0, 0, 0, 0, 1, 0, 0, 0, 0, 0, 0, 0, 1)
	bytesOf(t, agg.Of(of(low, -1)), 4+8, 128, 0, 0, 0, 0, 0, 0, 0, 255, 255, 255, 255, 255, 255, 255, 255)
}

func TestText(t *testing.T) {
	reads(t, agg.Agg{}, "count 0 sum 0 min 0 max 0 last 0")
	reads(t, agg.Of(nil), "count 0 sum 0 min 0 max 0 last 0")
	reads(t, agg.Of(of(5)), "count 1 sum 5 min 5 max 5 last 5")
	reads(t, agg.Of(of(7, 8, -100, 10)), "count 4 sum -75 min -100 max 10 last 10")
	reads(t, agg.Of(of(top, 1)), "count 2 sum over min 1 max 9223372036854775807 last 1")
	reads(t, agg.Of(of(low, -1)), "count 2 sum over min -9223372036854775808 max -1 last -1")
	reads(t, agg.Of(of(low)), "count 1 sum -9223372036854775808 min -9223372036854775808 max -9223372036854775808 last -9223372036854775808")
	reads(t, agg.Of(of(top)), "count 1 sum 9223372036854775807 min 9223372036854775807 max 9223372036854775807 last 9223372036854775807")
	reads(t, agg.Agg{Count: 1, Sum: 2, Min: 3, Max: 4, Last: 5}, "count 1 sum 2 min 3 max 4 last 5") // each its own
	reads(t, agg.Agg{Count: -1, Sum: -20, Min: -300, Max: -4000, Last: -50000}, "count -1 sum -20 min -300 max -4000 last -50000")
	reads(t, agg.Agg{Count: 1, Sum: 2, Min: 3, Max: 4, Last: 5, Over: true}, "count 1 sum over min 3 max 4 last 5")
	reads(t, agg.Agg{Over: true}, "count 0 sum over min 0 max 0 last 0")
	reads(t, agg.Agg{Count: math.MinInt}, "count -9223372036854775808 sum 0 min 0 max 0 last 0")
	reads(t, agg.Agg{Count: math.MaxInt}, "count 9223372036854775807 sum 0 min 0 max 0 last 0")
	for _, a := range strange() {
		reads(t, a, texted(a))
	}
	for _, n := range append(hard(), 9, 10, 11, 99, 100, 101, -9, -10, -99, -100, 1000000) {
		for _, over := range []bool{false, true} {
			reads(t, agg.Agg{Count: int(n), Sum: n, Min: n, Max: n, Last: n, Over: over}, texted(agg.Agg{Count: int(n), Sum: n, Min: n, Max: n, Last: n, Over: over}))
		}
	}
}

// What was handed in is as it was, spare room included, and what stands there counts for nothing.
func TestHandedInIsNotChanged(t *testing.T) {
	for n := range 70 {
		room := of(slices.Repeat([]int64{5, -9, top, low, 3, 3}, 20)...)
		before := slices.Clone(room)
		tells(t, room[:n], told(before[:n]))
		if !slices.Equal(room, before) {
			t.Fatalf("what was handed in of %d, or the room behind, is changed", n)
		}
	}
}

// What Of told stays as it was when what was handed in is written over.
func TestOfKeepsNothing(t *testing.T) {
	l := of(4, -1, 9)
	a := agg.Of(l)
	for i := range l {
		l[i] = series.Sample{T: -99, V: -99}
	}
	if want := (agg.Agg{Count: 3, Sum: 12, Min: -1, Max: 9, Last: 9}); a != want {
		t.Fatalf("what Of told is %+v now", a)
	}
}

// What Put told may be written over, spare room included.
func TestPutIsNewMemory(t *testing.T) {
	for _, a := range []agg.Agg{agg.Of(of(1, -3)), agg.Of(of(top)), {}} {
		for want := 1; want <= 31; want++ {
			first, second := puts(t, a, want), puts(t, a, want)
			full := first[:cap(first)]
			for i := range full {
				full[i] ^= 0x5a
			}
			if b, _ := written(a, want); !bytes.Equal(second, b) {
				t.Fatalf("two Puts of %+v, %d share memory", a, want)
			}
			puts(t, a, want)
		}
	}
}

// Lists at random, of numbers small and great, cut in two, against the other reckoning.
func TestAnyLists(t *testing.T) {
	r := rand.New(rand.NewSource(18))
	some := func() []series.Sample {
		l := make([]series.Sample, r.Intn(1+r.Intn(60)))
		bits := r.Intn(64)
		for i := range l {
			l[i] = series.Sample{T: int64(r.Uint64()), V: int64(r.Uint64()) >> bits}
			if r.Intn(4) == 0 {
				l[i].V = hard()[r.Intn(len(hard()))]
			}
		}
		return l
	}
	over := 0
	for range 20000 {
		l, m := some(), some()
		a, b := told(l), told(m)
		tells(t, l, a)
		tells(t, m, b)
		both := joined(a, b)
		joins(t, a, b, both)
		puts(t, both, r.Intn(36)-2)
		reads(t, both, texted(both))
		if a.Over {
			over++
		}
	}
	if over < 1000 || over > 19000 {
		t.Errorf("%d of 20000 lists were over: too few of one kind", over)
	}
}

// Nothing is kept from call to call: the same is told of the same, whatever is asked between.
func TestKeepsNothing(t *testing.T) {
	a, over := agg.Of(of(1, -3)), agg.Of(of(top, 1))
	for range 5 {
		tells(t, of(1, -3), a)
		tells(t, of(top, 1), over)
		tells(t, nil, agg.Agg{})
		joins(t, a, over, agg.Agg{Count: 4, Min: -3, Max: top, Last: 1, Over: true})
		joins(t, a, a, agg.Agg{Count: 4, Sum: -4, Min: -3, Max: 1, Last: -3})
		bytesOf(t, a, 1, 0, 0, 0, 0, 0, 0, 0, 2)
		refused(t, over, 2, api.EOVER)
		refused(t, a, 0, api.EARG)
		reads(t, a, "count 2 sum -2 min -3 max 1 last -3")
	}
}

func TestSideBySide(t *testing.T) {
	wrong := make([]bool, 8)
	shared := of(slices.Repeat([]int64{5, -9, 3, 1 << 61}, 10)...)
	var all sync.WaitGroup
	for i := range wrong {
		all.Go(func() {
			for n := range 1000 {
				l := shared[:(n+i)%40]
				a, b := told(l), told(shared[len(l):])
				want, f := written(a, n%33)
				got, e := agg.Put(agg.Of(l), n%33)
				if agg.Of(l) != a || agg.Join(a, b) != joined(a, b) || e != f || !bytes.Equal(got, want) || !strings.HasPrefix(agg.Text(a), "count ") {
					wrong[i] = true
				}
				clear(got[:cap(got)])
			}
		})
	}
	all.Wait()
	if slices.Contains(wrong, true) {
		t.Errorf("workers that were told another thing: %v", wrong)
	}
}
