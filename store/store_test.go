package store_test

import (
	"bytes"
	"maps"
	"math"
	"math/big"
	"math/rand"
	"runtime"
	"slices"
	"strconv"
	"strings"
	"sync"
	"testing"
	"weak"

	"warrener/agg"
	"warrener/api"
	"warrener/series"
	"warrener/store"
)

// mostSeries and mostRetain are the limits, written out.
const (
	mostSeries = 16
	mostRetain = 64
)

const (
	low = math.MinInt64
	top = math.MaxInt64
)

// at are samples of those times, each with a number of its own that does not rise with them.
func at(times ...int64) []series.Sample {
	var l []series.Sample
	for i, x := range times {
		l = append(l, series.Sample{T: x, V: (x*7919)%1000 - 500*int64(i%3)})
	}
	return l
}

// with are samples of times and numbers, in turn.
func with(n ...int64) []series.Sample {
	var l []series.Sample
	for i := 0; i < len(n); i += 2 {
		l = append(l, series.Sample{T: n[i], V: n[i+1]})
	}
	return l
}

// rising are n samples from a time on, each so much behind the one ahead of it.
func rising(n int, from, step int64) []series.Sample {
	var times []int64
	for i := range n {
		times = append(times, from+int64(i)*step)
	}
	return at(times...)
}

// hard are numbers that stand about the edges: of the type, of its halves, and of nought.
func hard() []int64 {
	l := []int64{low, low + 1, low + 2, low / 2, low/2 - 1, low/2 + 1, top / 2, top/2 + 1, top/2 + 2, top - 2, top - 1, top}
	for x := int64(-3); x <= 3; x++ {
		l = append(l, x)
	}
	for _, bit := range []int{7, 8, 15, 16, 31, 32, 33, 53, 62} {
		for off := int64(-1); off <= 1; off++ {
			l = append(l, 1<<bit+off, -(1<<bit)+off)
		}
	}
	slices.Sort(l)
	return slices.Compact(l)
}

// numbers are such as may be a most or a retain, and such as may not, near and far.
func numbers() []int {
	l := []int{math.MinInt, math.MinInt + 1, math.MinInt + 5, math.MinInt32, math.MaxInt32, math.MaxUint32, math.MaxInt - 1, math.MaxInt}
	for n := -70; n <= 140; n++ {
		l = append(l, n)
	}
	for bit := 8; bit < 63; bit++ {
		for _, off := range []int{-1, 0, 1, 5, 16, 64} {
			l = append(l, 1<<bit+off, -1<<bit+off)
		}
	}
	return l
}

// hardNames are such as an order by anything but bytes would lay otherwise, and such as
// begin alike.
func hardNames() []string {
	long := strings.Repeat("x", 1<<12)
	return []string{
		"", "a", "aa", "ab", "b", "A", "Aa", "Z", "z", " ", "a ", " a", "_", "~", "1", "9", "10", "01", "-1",
		"\x00", "\x00\x00", "a\x00", "a\x00b", "\xff", "\xff\xff", "a\xff", "\xfe", "\x7f", "\x80",
		"é", "e\u0301", "ß", "日", "\xe6\x97", "\U0001f407", "\uffff", "\ufffd", "\xc3", "K", "\u212a", "k",
		long, long[1:], long + "\x00", long + "y", long[1:] + "z", "\x00" + long,
	}
}

// model is a store, and what it should tell: of each name all that was pushed and taken.
type model struct {
	s            *store.Store
	most, retain int
	is           map[string][]series.Sample
}

func mustNew(t *testing.T, most, retain int) *model {
	t.Helper()
	s, e := store.New(most, retain)
	if e != api.OK || s == nil {
		t.Fatalf("New(%d, %d): %d", most, retain, e)
	}
	return &model{s, most, retain, map[string][]series.Sample{}}
}

// names are those that should be there, laid in order by their bytes alone.
func (m *model) names() []string {
	return slices.SortedFunc(maps.Keys(m.is), func(a, b string) int { return bytes.Compare([]byte(a), []byte(b)) })
}

// kept are the last ones of a name: those that should be there.
func (m *model) kept(name string) []series.Sample {
	l := m.is[name]
	for len(l) > m.retain {
		l = l[1:]
	}
	return l
}

// check holds all that is told against what should be there; twice, since telling it
// changes nothing.
func (m *model) check(t *testing.T, what string) {
	t.Helper()
	for range 2 {
		all := 0
		for _, name := range m.names() {
			m.samples(t, what, name)
			m.query(t, what, name, low, top)
			all += len(m.kept(name))
		}
		if l := m.s.Names(); !slices.Equal(l, m.names()) {
			t.Fatalf("%s: Names %.200q, not %.200q", what, l, m.names())
		}
		if n := m.s.Len(); n != all {
			t.Fatalf("%s: Len %d, not %d", what, n, all)
		}
	}
}

// samples holds what Samples tells of a name, there or not.
func (m *model) samples(t *testing.T, what, name string) {
	t.Helper()
	if l := m.s.Samples(name); !slices.Equal(l, m.kept(name)) {
		t.Fatalf("%s: Samples(%.20q) %v, not %v", what, name, l, m.kept(name))
	}
}

// query holds what Query tells of a name, there or not.
func (m *model) query(t *testing.T, what, name string, from, to int64) {
	t.Helper()
	a, st := m.s.Query(name, from, to)
	if _, there := m.is[name]; !there {
		if st != 8 || a != (agg.Agg{}) {
			t.Fatalf("%s: Query(%.20q) of none: %v, %d", what, name, a, st)
		}
		return
	}
	if want := few(m.kept(name), from, to); st != 0 || a != want {
		t.Fatalf("%s: Query(%.20q, %d, %d): %v, %d, not %v", what, name, from, to, a, st, want)
	}
}

// few is what those of a time should be in few, in another way than the program's own.
func few(l []series.Sample, from, to int64) agg.Agg {
	sum := new(big.Int)
	var in []int64
	for _, s := range l {
		if !above(from, s.T) && !above(s.T, to) {
			sum.Add(sum, big.NewInt(s.V))
			in = append(in, s.V)
		}
	}
	if len(in) == 0 {
		return agg.Agg{}
	}
	a := agg.Agg{Count: len(in), Min: slices.Min(in), Max: slices.Max(in), Last: in[len(in)-1]}
	if !sum.IsInt64() {
		a.Over = true
		return a
	}
	a.Sum = sum.Int64()
	return a
}

// above tells whether a is above b, as numbers from nought on.
func above(a, b int64) bool { return uint64(a)^1<<63 > uint64(b)^1<<63 }

// should is what a Push should tell.
func (m *model) should(name string, l []series.Sample) api.Status {
	all, there := m.is[name]
	if !there && len(m.is) == m.most {
		return 6
	}
	for i, s := range l {
		if i > 0 && !above(s.T, l[i-1].T) || len(all) > 0 && !above(s.T, all[len(all)-1].T) {
			return 5
		}
	}
	return 0
}

// push pushes, and holds the answer against what it should be. It tells the answer.
func (m *model) push(t *testing.T, what, name string, l []series.Sample) api.Status {
	t.Helper()
	want := m.should(name, l)
	if st := m.s.Push(name, l); st != want {
		t.Fatalf("%s: Push(%.20q, %v): %d, not %d", what, name, l, st, want)
	}
	if want == 0 {
		m.is[name] = append(slices.Clone(m.is[name]), l...)
	}
	return want
}

// pushed pushes, holds the answer against one that is written out, and all that is told then.
func (m *model) pushed(t *testing.T, name string, l []series.Sample, want api.Status) {
	t.Helper()
	if st := m.push(t, "pushed", name, l); st != want {
		t.Fatalf("Push(%.20q, %v): %d, not %d", name, l, st, want)
	}
	m.check(t, "after Push")
}

// told holds all times that are kept against a text, such as a:1,2 b: of two series.
func (m *model) told(t *testing.T, want string) {
	t.Helper()
	var all []string
	for _, name := range m.s.Names() {
		var times []string
		for _, x := range m.s.Samples(name) {
			times = append(times, strconv.FormatInt(x.T, 10))
		}
		all = append(all, name+":"+strings.Join(times, ","))
	}
	if have := strings.Join(all, " "); have != want {
		t.Fatalf("kept is %s, not %s", have, want)
	}
}

func TestExample(t *testing.T) {
	s, e := store.New(1, 1)
	if e != api.OK {
		t.Fatal(e)
	}
	if st := s.Push("a", []series.Sample{{T: 1, V: 5}}); st != api.Fine {
		t.Errorf("Push a 1 5: %d", st)
	}
	if a, st := s.Query("a", 0, 9); st != api.Fine || a != (agg.Agg{Count: 1, Sum: 5, Min: 5, Max: 5, Last: 5}) {
		t.Errorf("Query a 0 9: %v, %d", a, st)
	}
}

func TestNew(t *testing.T) {
	for _, most := range numbers() {
		for _, retain := range numbers() {
			s, e := store.New(most, retain)
			if most >= 1 && most <= mostSeries && retain >= 1 && retain <= mostRetain {
				if e != 0 || s == nil || s.Len() != 0 || len(s.Names()) != 0 {
					t.Fatalf("New(%d, %d): %d", most, retain, e)
				}
				continue
			}
			if e != 1 || s != nil {
				t.Fatalf("New(%d, %d), which may not be: %d, %v", most, retain, e, s)
			}
		}
	}
}

// Each most and each retain is what is held to later.
func TestNewIsHeldTo(t *testing.T) {
	for most := 1; most <= mostSeries; most++ {
		for retain := 1; retain <= mostRetain; retain++ {
			m := mustNew(t, most, retain)
			m.check(t, "new")
			for i := range most + 2 {
				st := m.push(t, "one more name", "n"+strconv.Itoa(i*7), rising(retain+i%3-1, int64(i), 2))
				if (st == api.Fine) != (i < most) {
					t.Fatalf("of %d, name %d: %d", most, i, st)
				}
			}
			m.check(t, "all names")
			if n := len(m.s.Names()); n != most {
				t.Fatalf("of %d: %d names", most, n)
			}
			for i := range most {
				m.push(t, "more", "n"+strconv.Itoa(i*7), rising(i%4+1, 1000, 1))
			}
			m.check(t, "more of all")
		}
	}
}

func TestPush(t *testing.T) {
	m := mustNew(t, 3, 4)
	for _, c := range []struct {
		name string
		l    []series.Sample
		then string
	}{
		{"b", at(5), "b:5"},
		{"b", at(6), "b:5,6"},
		{"a", at(1, 2, 3), "a:1,2,3 b:5,6"},
		{"b", at(9), "a:1,2,3 b:5,6,9"},
		{"ab", at(-7), "a:1,2,3 ab:-7 b:5,6,9"},
		{"a", at(4), "a:1,2,3,4 ab:-7 b:5,6,9"},
		{"a", at(5), "a:2,3,4,5 ab:-7 b:5,6,9"},
		{"ab", at(-6, 0, 6, 600), "a:2,3,4,5 ab:-6,0,6,600 b:5,6,9"},
		{"b", at(10, 20), "a:2,3,4,5 ab:-6,0,6,600 b:6,9,10,20"},
		{"a", at(6, 7, 8, 9, 10, 11), "a:8,9,10,11 ab:-6,0,6,600 b:6,9,10,20"},
		{"ab", nil, "a:8,9,10,11 ab:-6,0,6,600 b:6,9,10,20"},
	} {
		m.pushed(t, c.name, c.l, api.Fine)
		m.told(t, c.then)
	}
	if n := m.s.Len(); n != 12 {
		t.Errorf("Len: %d", n)
	}
}

// Numbers go with their times, whatever they are, and however they stand.
func TestNumbers(t *testing.T) {
	m := mustNew(t, 1, mostRetain)
	m.pushed(t, "a", with(1, 9, 2, low, 3, top), api.Fine)
	m.pushed(t, "a", with(4, 9, 5, 0, 6, -1), api.Fine)
	if l := m.s.Samples("a"); !slices.Equal(l, with(1, 9, 2, low, 3, top, 4, 9, 5, 0, 6, -1)) {
		t.Errorf("Samples: %v", l)
	}
	for i, v := range hard() {
		m.pushed(t, "a", with(7+int64(i), v), api.Fine)
	}
}

func TestPushOfNone(t *testing.T) {
	for _, none := range [][]series.Sample{nil, {}, make([]series.Sample, 0, 5)} {
		m := mustNew(t, 2, 2)
		m.pushed(t, "x", none, api.Fine) // a new name is there then
		m.told(t, "x:")
		m.pushed(t, "x", none, api.Fine)
		m.pushed(t, "b", at(3, 4), api.Fine)
		m.pushed(t, "b", none, api.Fine)
		m.told(t, "b:3,4 x:")
		m.pushed(t, "c", none, api.Full) // x takes room, though it has no samples
		m.query(t, "of one without samples", "x", low, top)
		if a, st := m.s.Query("x", 0, 9); st != api.Fine || a != (agg.Agg{}) {
			t.Errorf("Query of one without samples: %v, %d", a, st)
		}
		m.pushed(t, "x", at(low), api.Fine) // behind none, any time is in order
		m.told(t, "b:3,4 x:-9223372036854775808")
	}
}

// As many as are retained, fewer and more, in one call, in two, and one by one.
func TestRetain(t *testing.T) {
	for retain := 1; retain <= mostRetain; retain++ {
		for _, n := range []int{1, retain - 1, retain, retain + 1, 2*retain - 1, 2 * retain, 2*retain + 1, 3*retain + 5} {
			l := rising(n, -40, 3)
			m := mustNew(t, 1, retain)
			m.pushed(t, "a", l, api.Fine)
			for _, cut := range []int{1, n / 2, n - 1, retain, retain + 1} {
				if cut < 0 || cut > n {
					continue
				}
				two := mustNew(t, 2, retain)
				two.pushed(t, "a", l[:cut], api.Fine)
				two.pushed(t, "other", at(7), api.Fine)
				two.pushed(t, "a", l[cut:], api.Fine)
			}
			each := mustNew(t, 1, retain)
			for i := range l {
				each.push(t, "one by one", "a", l[i:i+1])
				each.samples(t, "one by one", "a")
			}
			each.check(t, "one by one")
		}
	}
}

// What stands ahead of the last ones is gone, for all that is told.
func TestGone(t *testing.T) {
	m := mustNew(t, 1, 2)
	m.pushed(t, "a", with(1, 100, 2, -100, 3, 5), api.Fine)
	if a, _ := m.s.Query("a", 0, 9); a != (agg.Agg{Count: 2, Sum: -95, Min: -100, Max: 5, Last: 5}) {
		t.Errorf("Query of all: %v", a)
	}
	m.pushed(t, "a", with(4, 7), api.Fine)
	if a, _ := m.s.Query("a", 0, 9); a != (agg.Agg{Count: 2, Sum: 12, Min: 5, Max: 7, Last: 7}) {
		t.Errorf("Query of all: %v", a)
	}
	if a, st := m.s.Query("a", 1, 2); a != (agg.Agg{}) || st != api.Fine {
		t.Errorf("Query of those that are gone: %v, %d", a, st)
	}
	if n := m.s.Len(); n != 2 {
		t.Errorf("Len: %d", n)
	}
}

func TestPushOfVeryMany(t *testing.T) {
	l := rising(1<<16, -(1 << 15), 2)
	for _, retain := range []int{1, mostRetain} {
		m := mustNew(t, 2, retain)
		m.pushed(t, "a", l, api.Fine)
		m.pushed(t, "b", l[:1<<15], api.Fine)
		m.pushed(t, "b", l[1<<15:], api.Fine)
		m.pushed(t, "a", l, api.Order)
		m.pushed(t, "b", slices.Concat(l[1:], l[:1]), api.Order)
	}
}

func TestFull(t *testing.T) {
	for most := 1; most <= mostSeries; most++ {
		m := mustNew(t, most, 3)
		for i := range most { // also the last one that there is room for
			m.pushed(t, string([]byte{'b' + byte(i)}), at(int64(i), int64(i)+5), api.Fine)
		}
		for _, name := range []string{"", "\x00", "a", "b\x00", "bb", "B", "b ", "\xff", string([]byte{'b' + byte(most)})} {
			m.pushed(t, name, at(1), api.Full)
			m.pushed(t, name, nil, api.Full)
			m.pushed(t, name, at(1, 1), api.Full) // it is Full, whatever l is
			m.pushed(t, name, at(2, 1), api.Full)
			m.pushed(t, name, rising(100, 5, -1), api.Full)
			m.query(t, "full", name, low, top)
			m.samples(t, "full", name)
		}
		for i := range most { // those that are there are pushed to as ever
			name := string([]byte{'b' + byte(i)})
			m.pushed(t, name, at(int64(i)+5), api.Order)
			m.pushed(t, name, nil, api.Fine)
			m.pushed(t, name, at(int64(i)+6), api.Fine)
		}
	}
}

func TestOrder(t *testing.T) {
	m := mustNew(t, 2, 3)
	m.pushed(t, "a", at(10, 20), api.Fine)
	for _, l := range [][]series.Sample{
		at(20), at(19), at(10), at(9), at(low), // not behind what is kept
		at(20, 21), at(19, 20, 21), at(9, 21, 22, 23, 24), at(20, 21, 22, 23),
		at(21, 21), at(22, 21), at(21, 20), at(21, 22, 22), at(21, 23, 22), at(30, 21, 40), // among themselves
		at(21, 21, 22, 23, 24), at(22, 21, 30, 31, 32, 33), at(21, 22, 23, 24, 24), // the fault is retained, or is not
		at(top, low), at(top, top),
	} {
		m.pushed(t, "a", l, api.Order)
		m.told(t, "a:10,20")
	}
	m.pushed(t, "a", at(21, 22), api.Fine)
	m.told(t, "a:20,21,22")
	for _, l := range [][]series.Sample{at(20), at(21), at(22), at(10), at(15), at(22, 23)} {
		m.pushed(t, "a", l, api.Order)
	}
	m.pushed(t, "a", at(23), api.Fine)
	m.told(t, "a:21,22,23")
	m.pushed(t, "a", at(top), api.Fine)
	m.pushed(t, "a", at(top), api.Order)
	m.pushed(t, "a", at(low), api.Order)
	m.pushed(t, "a", nil, api.Fine)
	m.told(t, "a:22,23,9223372036854775807")
}

// The same number at the same time is refused as well, and so is what was pushed already.
func TestOrderOfTheSame(t *testing.T) {
	m := mustNew(t, 1, 5)
	m.pushed(t, "a", with(3, 4), api.Fine)
	m.pushed(t, "a", with(3, 4), api.Order)
	m.pushed(t, "a", with(3, 5), api.Order)
	m.pushed(t, "a", m.s.Samples("a"), api.Order)
}

// A new name whose samples are refused is not there, and takes no room.
func TestOrderOfANewName(t *testing.T) {
	for most := 1; most <= mostSeries; most++ {
		m := mustNew(t, most, 4)
		for i := range most {
			name := "n" + strconv.Itoa(i)
			for range 3 {
				for _, l := range [][]series.Sample{at(1, 1), at(2, 1), at(1, 2, 2), at(9, 1, 2, 3, 4, 5)} {
					m.pushed(t, name, l, api.Order)
					m.pushed(t, "m"+strconv.Itoa(i), l, api.Order)
				}
			}
			if a, st := m.s.Query(name, low, top); st != api.Nothing || a != (agg.Agg{}) {
				t.Fatalf("Query of one that was refused: %v, %d", a, st)
			}
			m.pushed(t, name, at(0), api.Fine) // what was refused is not what it has to be behind
		}
		m.pushed(t, "m", at(1, 1), api.Full)
	}
}

// One fault at each place of lists, about what is kept and what is retained.
func TestOneIsNotInOrder(t *testing.T) {
	for _, retain := range []int{1, 2, 5, mostRetain} {
		for _, n := range []int{2, 5, 16, 70} {
			for i := range n {
				for _, less := range []int64{2, 3, 1000} { // a step is 2: the same time, one below it, far below
					l := rising(n, 10, 2)
					l[i].T -= less
					m := mustNew(t, 2, retain)
					m.push(t, "ahead", "a", at(8))
					if st := m.push(t, "one fault", "a", l); st != api.Order {
						t.Fatalf("retain %d, fault at %d of %d: %d", retain, i, n, st)
					}
					m.push(t, "one fault", "b", l)
					m.check(t, "one fault")
				}
			}
		}
	}
}

// Of all pairs of times at the edges: one behind the other, and in one list.
func TestHardTimes(t *testing.T) {
	for _, a := range hard() {
		for _, b := range hard() {
			m := mustNew(t, 2, 2)
			m.pushed(t, "one by one", at(a), api.Fine)
			m.push(t, "hard", "one by one", at(b))
			m.push(t, "hard", "both", at(a, b))
			m.check(t, "hard times")
			for _, name := range []string{"one by one", "both"} {
				m.query(t, "hard times", name, a, b)
				m.query(t, "hard times", name, b, a)
				m.query(t, "hard times", name, a, a)
				m.query(t, "hard times", name, b, top)
			}
		}
	}
}

func TestQuery(t *testing.T) {
	m := mustNew(t, 2, 5)
	m.pushed(t, "a", with(0, 1000, 1, 5, 3, -3, 7, 0, 8, 4, 20, 2), api.Fine)
	m.pushed(t, "e", nil, api.Fine)
	for _, c := range []struct {
		name     string
		from, to int64
		text     string
		st       api.Status
	}{
		{"a", 0, 99, "count 5 sum 8 min -3 max 5 last 2", 0},
		{"a", low, top, "count 5 sum 8 min -3 max 5 last 2", 0},
		{"a", 1, 20, "count 5 sum 8 min -3 max 5 last 2", 0},
		{"a", 2, 20, "count 4 sum 3 min -3 max 4 last 2", 0},
		{"a", 1, 19, "count 4 sum 6 min -3 max 5 last 4", 0},
		{"a", low, 3, "count 2 sum 2 min -3 max 5 last -3", 0},
		{"a", 8, top, "count 2 sum 6 min 2 max 4 last 2", 0},
		{"a", 3, 8, "count 3 sum 1 min -3 max 4 last 4", 0},
		{"a", 4, 7, "count 1 sum 0 min 0 max 0 last 0", 0},
		{"a", 7, 7, "count 1 sum 0 min 0 max 0 last 0", 0},
		{"a", 3, 3, "count 1 sum -3 min -3 max -3 last -3", 0},
		{"a", 1, 1, "count 1 sum 5 min 5 max 5 last 5", 0},
		{"a", 20, 20, "count 1 sum 2 min 2 max 2 last 2", 0},
		{"a", 0, 0, "count 0 sum 0 min 0 max 0 last 0", 0}, // gone
		{"a", 2, 2, "count 0 sum 0 min 0 max 0 last 0", 0},
		{"a", 4, 6, "count 0 sum 0 min 0 max 0 last 0", 0},
		{"a", 9, 19, "count 0 sum 0 min 0 max 0 last 0", 0},
		{"a", 21, top, "count 0 sum 0 min 0 max 0 last 0", 0},
		{"a", low, 0, "count 0 sum 0 min 0 max 0 last 0", 0},
		{"a", 8, 3, "count 0 sum 0 min 0 max 0 last 0", 0},
		{"a", 8, 7, "count 0 sum 0 min 0 max 0 last 0", 0},
		{"a", top, low, "count 0 sum 0 min 0 max 0 last 0", 0},
		{"e", low, top, "count 0 sum 0 min 0 max 0 last 0", 0},
		{"e", 9, 0, "count 0 sum 0 min 0 max 0 last 0", 0},
		{"b", 0, 99, "count 0 sum 0 min 0 max 0 last 0", api.Nothing},
		{"", 0, 99, "count 0 sum 0 min 0 max 0 last 0", api.Nothing},
		{"A", 99, 0, "count 0 sum 0 min 0 max 0 last 0", api.Nothing},
		{"a\x00", low, top, "count 0 sum 0 min 0 max 0 last 0", api.Nothing},
	} {
		a, st := m.s.Query(c.name, c.from, c.to)
		if st != c.st || agg.Text(a) != c.text || a.Over {
			t.Errorf("Query(%q, %d, %d): %s, %d, not %s, %d", c.name, c.from, c.to, agg.Text(a), st, c.text, c.st)
		}
		m.query(t, "written out", c.name, c.from, c.to)
	}
	m.check(t, "asked")
}

// Every from and every to about each place, and at the edges.
func TestQueryOfAllBounds(t *testing.T) {
	for _, times := range [][]int64{{5}, {-3, -2, 0, 1, 7}, {low, low + 1, -1, 0, top - 1, top}, {low, top}, {1 << 40, 1<<40 + 2}} {
		for _, retain := range []int{1, 2, 3, mostRetain} {
			m := mustNew(t, 1, retain)
			m.pushed(t, "a", at(times...), api.Fine)
			bounds := []int64{low, low + 1, low + 2, -9, 0, 9, top - 2, top - 1, top}
			for _, x := range times {
				bounds = append(bounds, x, x-1, x+1) // at the edges these wrap round, and are bounds as any
			}
			for _, from := range bounds {
				for _, to := range bounds {
					m.query(t, "all bounds", "a", from, to)
				}
			}
		}
	}
}

func TestQueryOver(t *testing.T) {
	m := mustNew(t, 2, 6)
	m.pushed(t, "a", with(1, top, 2, 1, 3, -1, 4, low, 5, low, 6, -1), api.Fine)
	for _, c := range []struct {
		from, to int64
		want     agg.Agg
	}{
		{1, 2, agg.Agg{Count: 2, Min: 1, Max: top, Last: 1, Over: true}},
		{4, 5, agg.Agg{Count: 2, Min: low, Max: low, Last: low, Over: true}},
		{0, 9, agg.Agg{Count: 6, Min: low, Max: top, Last: -1, Over: true}},
		{5, 6, agg.Agg{Count: 2, Min: low, Max: -1, Last: -1, Over: true}},
		{1, 3, agg.Agg{Count: 3, Sum: top, Min: -1, Max: top, Last: -1}}, // what stands between does not count
		{1, 4, agg.Agg{Count: 4, Sum: -1, Min: low, Max: top, Last: low}},
		{1, 1, agg.Agg{Count: 1, Sum: top, Min: top, Max: top, Last: top}},
		{2, 3, agg.Agg{Count: 2, Sum: 0, Min: -1, Max: 1, Last: -1}},
		{5, 5, agg.Agg{Count: 1, Sum: low, Min: low, Max: low, Last: low}},
	} {
		if a, st := m.s.Query("a", c.from, c.to); st != api.Fine || a != c.want {
			t.Errorf("Query(%d, %d): %v, %d", c.from, c.to, a, st)
		}
	}
	m.pushed(t, "b", with(1, 1), api.Fine)
	if a, st := m.s.Query("b", 0, 9); st != api.Fine || a.Over || a.Sum != 1 {
		t.Errorf("Query of another: %v, %d", a, st)
	}
	m.pushed(t, "a", with(7, 0, 8, 0, 9, 0, 10, 0, 11, 0), api.Fine)
	if a, st := m.s.Query("a", low, top); st != api.Fine || a.Over || a.Sum != -1 { // what was too much is gone
		t.Errorf("Query of what is left: %v, %d", a, st)
	}
}

// Names that begin alike, are empty or have any bytes: each its own series, in whatever order
// they come, told by their bytes.
func TestNames(t *testing.T) {
	names := hardNames()
	for turn := range 60 {
		m := mustNew(t, mostSeries, 2)
		for i := range mostSeries {
			name := names[(turn*5+i*(2*turn+1))%len(names)]
			m.push(t, "hard names", name, at(int64(i*100+turn), int64(i*100+turn)+1+int64(i%5)))
		}
		m.check(t, "hard names")
		for _, name := range names {
			m.samples(t, "hard names", name)
			m.query(t, "hard names", name, low, top)
			m.push(t, "hard names again", name, at(5000))
		}
		m.check(t, "hard names again")
	}
}

// All orders in which four names may come.
func TestNamesInAnyOrder(t *testing.T) {
	names := []string{"", "a", "a\x00", "b"}
	for row := range 4 * 4 * 4 * 4 {
		m := mustNew(t, 4, 3)
		for i := range 4 {
			name := names[row>>(2*i)&3]
			m.push(t, "any order", name, at(int64(i)))
			m.check(t, "any order")
		}
	}
	m := mustNew(t, 4, 3)
	for _, name := range []string{"b", "a\x00", "", "a"} {
		m.pushed(t, name, nil, api.Fine)
	}
	if l := m.s.Names(); !slices.Equal(l, names) {
		t.Errorf("Names: %q", l)
	}
}

// Each byte is one of its own.
func TestNamesOfOneByte(t *testing.T) {
	for from := 0; from < 256; from += mostSeries {
		m := mustNew(t, mostSeries, 1)
		for i := range mostSeries {
			m.pushed(t, string([]byte{byte(from + (i*7)%mostSeries)}), at(int64(i)), api.Fine)
		}
		for b := range 256 {
			m.query(t, "one byte", string([]byte{byte(b)}), 0, 99)
			m.push(t, "one byte", string([]byte{byte(b)}), at(50))
		}
		m.check(t, "one byte")
	}
}

func TestLen(t *testing.T) {
	m := mustNew(t, 3, 4)
	for i, c := range []struct {
		name string
		l    []series.Sample
		n    int
	}{
		{"a", nil, 0}, {"b", at(1), 1}, {"a", at(1, 2, 3), 4}, {"a", at(1), 4}, {"c", at(2, 1), 4}, {"b", at(2, 3, 4), 7},
		{"b", at(5), 7}, {"a", at(4), 8}, {"c", at(1, 2, 3, 4, 5, 6), 12}, {"d", at(1), 12}, {"c", at(7, 8), 12},
	} {
		m.push(t, "len", c.name, c.l)
		if n := m.s.Len(); n != c.n {
			t.Errorf("Len after Push %d: %d, not %d", i, n, c.n)
		}
	}
	all := mustNew(t, mostSeries, mostRetain)
	for i := range mostSeries {
		all.pushed(t, strconv.Itoa(i), rising(mostRetain+i, 0, 1), api.Fine)
	}
	if n := all.s.Len(); n != 1024 {
		t.Errorf("Len of all that there is room for: %d", n)
	}
}

func TestOfNoneThatIsThere(t *testing.T) {
	m := mustNew(t, 3, 3)
	for _, there := range []string{"", "b", "d"} {
		for _, name := range []string{"", "\x00", "a", "b", "b\x00", "bb", "B", "c", "d", "d ", "e", "\xff"} {
			m.query(t, "none", name, low, top)
			m.query(t, "none", name, 3, 2)
			m.samples(t, "none", name)
		}
		m.check(t, "none")
		m.pushed(t, there, at(1), api.Fine)
	}
}

// lists are all lists of at most so many of the given times.
func lists(many int, times ...int64) [][]series.Sample {
	all := [][]series.Sample{nil}
	for from := 0; many > 0; many-- {
		for _, l := range all[from:] {
			from++
			for _, x := range times {
				all = append(all, append(slices.Clone(l), at(x)...))
			}
		}
	}
	return all
}

// All rows of three Pushes of small lists to three names.
func TestAllRows(t *testing.T) {
	all := lists(2, 1, 2)
	for _, size := range [][2]int{{1, 1}, {1, 2}, {2, 1}, {2, 2}, {2, 3}, {3, 3}} {
		steps := len(all) * 3
		for row := range steps * steps * steps {
			m := mustNew(t, size[0], size[1])
			for rest := row + steps*steps*steps; rest > 1; rest /= steps {
				step := rest % steps
				m.push(t, "all rows", []string{"", "a", "b"}[step%3], all[step/3])
			}
			m.check(t, "all rows")
		}
	}
}

// Long rows at random, now and then refused.
func TestAnySteps(t *testing.T) {
	r := rand.New(rand.NewSource(19))
	values := hard()
	for row := range 400 {
		m := mustNew(t, 1+r.Intn(mostSeries), 1+r.Intn([]int{4, 12, mostRetain}[row%3]))
		for i := range 80 {
			name := strings.Repeat("n", r.Intn(3)) + strconv.Itoa(r.Intn(m.most/2+2))
			t0 := int64(-50)
			if l := m.is[name]; len(l) > 0 {
				t0 = l[len(l)-1].T
			}
			l := make([]series.Sample, r.Intn(1+r.Intn(20)))
			for k := range l {
				t0 += 1 + int64(r.Intn(5))
				l[k] = series.Sample{T: t0, V: values[r.Intn(len(values))]}
				if r.Intn(40) == 0 {
					l[k].T -= int64(r.Intn(9))
				}
			}
			m.push(t, "any steps", name, l)
			m.query(t, "any steps", name, t0-int64(r.Intn(60)), t0-int64(r.Intn(30)))
			if i%4 == 0 { // all is asked in between, or it is not
				m.check(t, "any steps")
			}
		}
		m.check(t, "any steps, at their end")
	}
}

// Of two stores alike, one is asked, and pushed to what is refused: it tells what the other
// one tells ever after.
func TestWhatChangesNothing(t *testing.T) {
	r := rand.New(rand.NewSource(190))
	for range 300 {
		most, retain := 1+r.Intn(4), 1+r.Intn(5)
		m, twin := mustNew(t, most, retain), mustNew(t, most, retain)
		for i := range 30 {
			name := strconv.Itoa(r.Intn(most + 1))
			l := rising(r.Intn(4), int64(i*10), 2)
			for range r.Intn(3) {
				m.s.Names()
				m.s.Len()
				m.s.Samples(name)
				m.s.Query(name, int64(r.Intn(300)), int64(r.Intn(300)))
				m.s.Query("none", low, top)
				if wrong := rising(2+r.Intn(9), int64(i*10), -1); m.s.Push(name, wrong) == api.Fine {
					t.Fatalf("Push of %v: Fine", wrong)
				}
			}
			if a, b := m.push(t, "one", name, l), twin.push(t, "the other", name, l); a != b {
				t.Fatalf("Push(%s, %v): %d and %d", name, l, a, b)
			}
			m.check(t, "one")
			twin.check(t, "the other")
		}
	}
}

// full is room for n and some more, with something in all of it.
func full(n int) []series.Sample {
	return rising(n+5, 1<<30, 3)[:n]
}

// What was handed in is as it was, spare room included, refused or not; and it is not kept:
// what is written over later is not seen.
func TestHandedIn(t *testing.T) {
	for _, retain := range []int{1, 3, mostRetain} {
		for _, n := range []int{0, 1, 2, 3, 4, 16, 64, 70} {
			for _, wrong := range []bool{false, true} {
				m := mustNew(t, 2, retain)
				m.pushed(t, "there", at(low, 5, 6), api.Fine)
				for _, name := range []string{"there", "new", "new", "none"} {
					l := full(n)
					if name == "new" {
						for i := range l[:cap(l)] {
							l[:cap(l)][i].T += int64(len(m.is["new"])) << 20
						}
					}
					if wrong && n > 1 {
						l[n-1].T = l[n-2].T
					}
					was := slices.Clone(l[:cap(l)])
					m.push(t, "handed in", name, l)
					if !slices.Equal(l[:cap(l)], was) {
						t.Fatalf("Push changed what was handed in, of %d", n)
					}
					m.check(t, "handed in")
					overwrite(l)
					m.check(t, "handed in, and written over")
				}
			}
		}
	}
}

// overwrite writes all over an answer, spare room included.
func overwrite(l []series.Sample) {
	l = l[:cap(l)]
	for i := range l {
		l[i] = series.Sample{T: -77, V: 77}
	}
}

// What Samples and Names tell may be written over, spare room included, and is what was so
// then, whatever comes later; no two answers share any.
func TestAnswersAreNewMemory(t *testing.T) {
	for _, retain := range []int{1, 2, 3, 5, mostRetain} {
		for n := range 10 {
			m := mustNew(t, 3, retain)
			m.pushed(t, "b", rising(n, 0, 2), api.Fine)
			m.pushed(t, "a", rising(n/2, 0, 2), api.Fine)
			first, second, names := m.s.Samples("b"), m.s.Samples("b"), m.s.Names()
			was := slices.Clone(first)
			overwrite(second)
			if !slices.Equal(first, was) {
				t.Fatal("two answers share")
			}
			overwrite(m.s.Samples("a"))
			overwrite(m.s.Samples("none"))
			for l := names[:cap(names)]; len(l) > 0; l = l[1:] {
				l[0] = "zz"
			}
			m.check(t, "answers are written over")
			names = m.s.Names()
			m.pushed(t, "b", rising(3, 100, 1), api.Fine)
			m.pushed(t, "aa", at(1), api.Fine)
			if !slices.Equal(first, was) || !slices.Equal(names, []string{"a", "b"}) {
				t.Fatal("an answer changed when more was pushed")
			}
			overwrite(first)
			m.check(t, "an answer is written over later")
		}
	}
}

// What was told is pushed as it is, to another name and another store, and stays apart.
func TestPushOfAnswers(t *testing.T) {
	m, other := mustNew(t, 3, 4), mustNew(t, 3, 4)
	m.pushed(t, "a", rising(6, 0, 1), api.Fine)
	l := m.s.Samples("a")
	m.pushed(t, "b", l, api.Fine)
	other.pushed(t, "a", l, api.Fine)
	m.pushed(t, "a", l, api.Order)
	m.pushed(t, "a", at(9), api.Fine)
	overwrite(l)
	m.check(t, "told and pushed")
	other.check(t, "told and pushed")
}

func TestApart(t *testing.T) {
	m, other := mustNew(t, 2, 3), mustNew(t, 2, 3)
	for i := range 5 {
		m.pushed(t, "a", at(int64(i)), api.Fine)
		other.check(t, "apart")
		m.pushed(t, strconv.Itoa(i), nil, []api.Status{0, 6, 6, 6, 6}[i])
		other.pushed(t, "a", at(int64(100*i-50), int64(100*i)), api.Fine)
		m.check(t, "apart")
	}
	other.query(t, "apart", "0", low, top)
}

// What has gone and what was handed in are kept no longer.
func TestLetsGo(t *testing.T) {
	m := mustNew(t, mostSeries, 1)
	var gone []weak.Pointer[series.Sample]
	for i := range mostSeries {
		l := rising(1<<15, 0, 1)
		gone = append(gone, weak.Make(&l[0]))
		m.s.Push(strconv.Itoa(i), l)
	}
	var before, after runtime.MemStats
	runtime.GC()
	runtime.ReadMemStats(&before)
	for i, p := range gone {
		if p.Value() != nil {
			t.Fatalf("what was handed in to Push %d is kept", i)
		}
	}
	for round := range 4 {
		for i := range mostSeries {
			if st := m.s.Push(strconv.Itoa(i), rising(1<<15, int64(round+1)<<20, 1)); st != api.Fine {
				t.Fatalf("Push: %d", st)
			}
		}
	}
	runtime.GC()
	runtime.ReadMemStats(&after)
	if after.HeapAlloc > before.HeapAlloc+1<<20 { // what has gone is 40 times as much
		t.Errorf("%d bytes more are kept", after.HeapAlloc-before.HeapAlloc)
	}
	if m.s.Len() != mostSeries {
		t.Errorf("Len: %d", m.s.Len())
	}
}

// Stores side by side, each with a caller of its own, fed with the same lists.
func TestSideBySide(t *testing.T) {
	l := rising(200, 0, 1)
	var wg sync.WaitGroup
	for k := range 8 {
		m := mustNew(t, 1+k%3, 1+k*9)
		wg.Go(func() {
			for i := range 200 {
				name := strconv.Itoa(i * (k + 1) % 5)
				if want := m.should(name, l[i:min(i+3, 200)]); m.s.Push(name, l[i:min(i+3, 200)]) != want {
					t.Errorf("side by side: not %d", want)
					return
				} else if want == api.Fine {
					m.is[name] = append(m.is[name], l[i:min(i+3, 200)]...)
				}
				if !slices.Equal(m.s.Samples(name), m.kept(name)) || !slices.Equal(m.s.Names(), m.names()) {
					t.Error("side by side: not what was pushed")
					return
				}
			}
		})
	}
	wg.Wait()
}
