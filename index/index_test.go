package index_test

import (
	"maps"
	"math"
	"math/rand"
	"runtime"
	"slices"
	"strconv"
	"strings"
	"sync"
	"testing"
	"unsafe"

	"warrener/api"
	"warrener/index"
)

// most is how many rows there may be, written out.
const most = 4096

// model is an index, and what it should tell: of each row that is not empty its entry.
type model struct {
	x  *index.Index
	is map[int]index.Entry
}

func mustNew() *model { return &model{index.New(), map[int]index.Entry{}} }

// count is how many rows there should be: one more than the greatest that is not empty.
func (m *model) count() int {
	n := 0
	for row := range m.is {
		n = max(n, row+1)
	}
	return n
}

// find is the row where a key should be, or -1.
func (m *model) find(key string) int {
	for row, e := range m.is {
		if e.Key == key {
			return row
		}
	}
	return -1
}

// should is what Add should tell, and the row that it should take.
func (m *model) should(e index.Entry) (api.Errno, int) {
	if len(e.Key) == 0 {
		return 1, -1
	}
	if m.find(e.Key) >= 0 {
		return 6, -1
	}
	for row := range most {
		if _, there := m.is[row]; !there {
			return 0, row
		}
	}
	return 6, -1
}

// add adds, and holds the answer against what it should be. It tells the answer.
func (m *model) add(t *testing.T, what string, e index.Entry) api.Errno {
	t.Helper()
	want, row := m.should(e)
	if have := m.x.Add(e); have != want {
		t.Fatalf("%s: Add(%.200v): %d, not %d", what, e, have, want)
	}
	if want == 0 {
		m.is[row] = e
	}
	return want
}

// added adds, holds the answer against one that is written out, and all that is told then.
func (m *model) added(t *testing.T, e index.Entry, want api.Errno) {
	t.Helper()
	if have := m.add(t, "added", e); have != want {
		t.Fatalf("Add(%.200v): %d, not %d", e, have, want)
	}
	m.check(t, "after Add")
}

// drop drops, and holds the answer against what it should be. It tells whether a row went.
func (m *model) drop(t *testing.T, what string, row int) bool {
	t.Helper()
	want, there := m.is[row]
	if e, ok := m.x.Drop(row); ok != there || e != want {
		t.Fatalf("%s: Drop(%d): %.200v, %v, not %.200v, %v", what, row, e, ok, want, there)
	}
	delete(m.is, row)
	return there
}

// dropped drops one that is there, and holds all that is told then.
func (m *model) dropped(t *testing.T, row int) {
	t.Helper()
	if !m.drop(t, "dropped", row) {
		t.Fatalf("Drop(%d): false", row)
	}
	m.check(t, "after Drop")
}

// set marks a row, and holds the answer.
func (m *model) set(t *testing.T, what string, row int, used bool) {
	t.Helper()
	e, there := m.is[row]
	if ok := m.x.Set(row, used); ok != there {
		t.Fatalf("%s: Set(%d, %v): %v", what, row, used, ok)
	}
	if there {
		e.Used = used
		m.is[row] = e
	}
}

// touch marks a key's row, and holds the answer.
func (m *model) touch(t *testing.T, what, key string) {
	t.Helper()
	row := m.find(key)
	if ok := m.x.Touch(key); ok != (row >= 0) {
		t.Fatalf("%s: Touch(%.20q): %v", what, key, ok)
	}
	if row >= 0 {
		e := m.is[row]
		e.Used = true
		m.is[row] = e
	}
}

// check holds all that is told against what should be there; twice, since telling it
// changes nothing.
func (m *model) check(t *testing.T, what string) {
	t.Helper()
	for range 2 {
		n := m.count()
		if have := m.x.Rows(); have != n {
			t.Fatalf("%s: Rows %d, not %d", what, have, n)
		}
		live := uint64(0)
		series := map[string][]int{"": nil, "no row has it": nil}
		for row := range n {
			m.at(t, what, row)
			e, there := m.is[row]
			if !there {
				continue
			}
			live += uint64(e.Size)
			series[e.Series] = append(series[e.Series], row)
			if have, ok := m.x.Find(e.Key); !ok || have != row {
				t.Fatalf("%s: Find(%.20q): %d, %v, not %d", what, e.Key, have, ok, row)
			}
		}
		for s, rows := range series {
			if l := m.x.Of(s); !slices.Equal(l, rows) {
				t.Fatalf("%s: Of(%.20q): %v, not %v", what, s, l, rows)
			}
		}
		if have := m.x.Live(); have != int(live) {
			t.Fatalf("%s: Live %d, not %d", what, have, int(live))
		}
		for _, row := range wrongRows(n) {
			m.at(t, what, row)
		}
		for _, key := range []string{"", "no row has it"} {
			m.none(t, what, key)
		}
	}
}

// at holds what At tells of a row, there or not.
func (m *model) at(t *testing.T, what string, row int) {
	t.Helper()
	want, there := m.is[row]
	if e, ok := m.x.At(row); ok != there || e != want {
		t.Fatalf("%s: At(%d): %.200v, %v, not %.200v, %v", what, row, e, ok, want, there)
	}
}

// none holds that a key is not there.
func (m *model) none(t *testing.T, what, key string) {
	t.Helper()
	if row, ok := m.x.Find(key); ok || row != 0 {
		t.Fatalf("%s: Find(%.20q) of none: %d, %v", what, key, row, ok)
	}
}

// wrongRows are numbers that no row has, of n that there are.
func wrongRows(n int) []int {
	return []int{
		math.MinInt, math.MinInt + 1, math.MinInt32, -1 << 32, -most - 1, -most, -n, -2, -1,
		n, n + 1, n + 2, most + n, 1 << 16, math.MaxInt32, 1 << 32, 1<<32 + 1, math.MaxInt - 1, math.MaxInt,
	}
}

// told holds all rows against a text: a key of each, + behind it if it is used; - of an empty one.
func (m *model) told(t *testing.T, want string) {
	t.Helper()
	var all []string
	for row := range m.x.Rows() {
		e, ok := m.x.At(row)
		switch {
		case !ok:
			all = append(all, "-")
		case e.Used:
			all = append(all, e.Key+"+")
		default:
			all = append(all, e.Key)
		}
	}
	if have := strings.Join(all, " "); have != want {
		t.Fatalf("the rows are %s, not %s", have, want)
	}
}

// of is an entry of that key, with other things that hang on it alone.
func of(key string) index.Entry {
	sum := 0
	for _, b := range []byte(key) {
		sum = sum*7 + int(b)
	}
	return index.Entry{Key: key, Series: "s" + strconv.Itoa(sum%3), ID: sum - 300, Size: sum%97 + 1}
}

// with is a model of these keys, a row each; a - is a row that is empty.
func with(t *testing.T, keys string) *model {
	t.Helper()
	m := mustNew()
	for i, key := range strings.Fields(keys) {
		if key == "-" {
			key = "gone" + strconv.Itoa(i)
		}
		m.add(t, "with", of(key))
	}
	for i, key := range strings.Fields(keys) {
		if key == "-" {
			m.drop(t, "with", i)
		}
	}
	m.check(t, "with "+keys)
	m.told(t, keys)
	return m
}

// filled is a model of as many rows as may be, of few series.
func filled(t *testing.T) *model {
	t.Helper()
	m := mustNew()
	for row := range most {
		e := index.Entry{Key: strconv.Itoa(row * 7919 % 65537), Series: strconv.Itoa(row % 7), ID: most - row, Size: row % 100}
		if have := m.x.Add(e); have != 0 {
			t.Fatalf("Add into row %d: %d", row, have)
		}
		m.is[row] = e // not asked of the model, which would take long
	}
	m.check(t, "all rows")
	return m
}

func TestExample(t *testing.T) {
	x := index.New()
	if a, b := x.Add(index.Entry{Key: "a"}), x.Add(index.Entry{Key: "b"}); a != api.OK || b != api.OK {
		t.Fatalf("Add a, Add b: %d, %d", a, b)
	}
	if e, ok := x.Drop(0); !ok || e.Key != "a" {
		t.Errorf("Drop(0): %v, %v", e, ok)
	}
	if e := x.Add(index.Entry{Key: "c"}); e != api.OK {
		t.Errorf("Add c: %d", e)
	}
	if row, ok := x.Find("c"); !ok || row != 0 {
		t.Errorf("Find c: %d, %v", row, ok)
	}
}

func TestOfNoneAtAll(t *testing.T) {
	m := mustNew()
	m.check(t, "new")
	if m.x.Rows() != 0 || m.x.Live() != 0 || len(m.x.Of("")) != 0 {
		t.Errorf("new: Rows %d, Live %d, Of %v", m.x.Rows(), m.x.Live(), m.x.Of(""))
	}
	if _, ok := m.x.At(0); ok || m.x.Set(0, true) || m.x.Touch("") || m.x.Touch("a") || m.drop(t, "new", 0) {
		t.Error("new: something is there")
	}
	m.check(t, "new, and asked")
}

// Ordinary steps, with all that is told after each written out.
func TestSteps(t *testing.T) {
	m := mustNew()
	for i, c := range []struct {
		do   func()
		then string
		of   []int // of series s
		live int
	}{
		{func() { m.added(t, index.Entry{Key: "b", Series: "s", ID: 4, Size: 40}, 0) }, "b", []int{0}, 40},
		{func() { m.added(t, index.Entry{Key: "a", Series: "t", ID: 2, Size: 5, Used: true}, 0) }, "b a+", []int{0}, 45},
		{func() { m.added(t, index.Entry{Key: "ab", Series: "s", ID: 9, Size: 7}, 0) }, "b a+ ab", []int{0, 2}, 52},
		{func() { m.added(t, index.Entry{Key: "c", Series: "s", ID: 1}, 0) }, "b a+ ab c", []int{0, 2, 3}, 52},
		{func() { m.touch(t, "steps", "ab") }, "b a+ ab+ c", []int{0, 2, 3}, 52},
		{func() { m.set(t, "steps", 1, false) }, "b a ab+ c", []int{0, 2, 3}, 52},
		{func() { m.set(t, "steps", 3, true) }, "b a ab+ c+", []int{0, 2, 3}, 52},
		{func() { m.dropped(t, 1) }, "b - ab+ c+", []int{0, 2, 3}, 47},
		{func() { m.dropped(t, 0) }, "- - ab+ c+", []int{2, 3}, 7},
		{func() { m.added(t, index.Entry{Key: "a", Series: "s", ID: 6, Size: 1}, 0) }, "a - ab+ c+", []int{0, 2, 3}, 8},
		{func() { m.dropped(t, 2) }, "a - - c+", []int{0, 3}, 1},
		{func() { m.added(t, index.Entry{Key: "d", Series: "u", ID: 6, Size: 2}, 0) }, "a d - c+", []int{0, 3}, 3},
		{func() { m.dropped(t, 3) }, "a d", []int{0}, 3},
		{func() { m.added(t, index.Entry{Key: "e", Series: "s", ID: 7, Size: 3}, 0) }, "a d e", []int{0, 2}, 6},
		{func() { m.dropped(t, 1) }, "a - e", []int{0, 2}, 4},
		{func() { m.dropped(t, 2) }, "a", []int{0}, 1},
		{func() { m.dropped(t, 0) }, "", nil, 0},
		{func() { m.added(t, index.Entry{Key: "a", Series: "s", Size: 9}, 0) }, "a", []int{0}, 9},
	} {
		c.do()
		m.check(t, "step "+strconv.Itoa(i))
		m.told(t, c.then)
		if l, n := m.x.Of("s"), m.x.Live(); !slices.Equal(l, c.of) || n != c.live {
			t.Fatalf("step %d: Of %v, Live %d, not %v, %d", i, l, n, c.of, c.live)
		}
	}
}

// Each field of an entry is kept as it is, wherever it lies, and is what At and Drop tell.
func TestEntry(t *testing.T) {
	m := mustNew()
	var all []index.Entry
	for i, e := range []index.Entry{
		{Key: "k"}, {Key: "l", Series: "k"}, {Key: "m", ID: 5}, {Key: "n", Size: 5}, {Key: "o", Used: true},
		{Key: "p", Series: "p", ID: -5, Size: 6, Used: true}, {Key: "q", Series: "p", ID: -5, Size: 6}, // no ID is asked to be another
	} {
		m.added(t, e, 0)
		all = append(all, e)
		for row, e := range all {
			if have, ok := m.x.At(row); !ok || have != e {
				t.Fatalf("of %d, At(%d): %v, %v, not %v", i+1, row, have, ok, e)
			}
		}
	}
	for row, e := range all {
		if have, ok := m.x.Drop(row); !ok || have != e {
			t.Fatalf("Drop(%d): %v, %v, not %v", row, have, ok, e)
		}
		delete(m.is, row)
		m.check(t, "dropped")
	}
}

// states are models of many kinds: of none, of few, with empty rows, full.
func states(t *testing.T) []*model {
	t.Helper()
	l := []*model{mustNew(), filled(t), filled(t), filled(t)}
	l[2].drop(t, "states", 77)
	l[3].drop(t, "states", most-1)
	for _, keys := range []string{"a", "a b", "- a", "a - b", "- - a - b", "a b c d e f g h i"} {
		l = append(l, with(t, keys))
	}
	emptied := with(t, "a b c")
	for row := range 3 {
		emptied.drop(t, "states", row)
	}
	return append(l, emptied)
}

func TestAddOfAnEmptyKey(t *testing.T) {
	for _, m := range states(t) {
		m.added(t, index.Entry{}, api.EARG)
		m.added(t, index.Entry{Series: "s", ID: 1, Size: 1, Used: true}, api.EARG)
		m.added(t, index.Entry{Size: -1}, api.EARG)
	}
}

func TestAddOfAKeyThatIsThere(t *testing.T) {
	for _, m := range states(t) {
		rows := slices.Sorted(maps.Keys(m.is))
		for i, row := range rows {
			if i > 3 && i < len(rows)-3 {
				continue
			}
			e := m.is[row]
			for _, e := range []index.Entry{
				e, {Key: e.Key}, {Key: e.Key, Series: e.Series + "x", ID: e.ID + 1, Size: e.Size + 1, Used: !e.Used},
				{Key: e.Key, Series: e.Series, ID: e.ID, Size: e.Size, Used: !e.Used},
			} {
				if have := m.add(t, "there", e); have != api.EFULL {
					t.Fatalf("Add of a key that is in row %d: %d", row, have)
				}
			}
		}
		m.check(t, "added what is there")
	}
}

// Of several empty rows the least is taken, whichever rows were dropped, and in what order.
func TestLeastEmptyRow(t *testing.T) {
	for n := 1; n <= 6; n++ {
		for gone := range 1 << n {
			for _, back := range []bool{false, true} {
				m := with(t, strings.Join(strings.Split("abcdef"[:n], ""), " "))
				for i := range n {
					if back {
						i = n - 1 - i
					}
					if gone>>i&1 == 1 {
						m.drop(t, "some", i)
					}
				}
				m.check(t, "some are dropped")
				for i := range n + 2 {
					m.add(t, "anew", of("new"+strconv.Itoa(i)))
					m.check(t, "anew")
				}
			}
		}
	}
}

func TestDropAtTheEnd(t *testing.T) {
	for _, c := range []struct {
		keys string
		row  int
		then string
	}{
		{"a", 0, ""}, {"- a", 1, ""}, {"- - - - a", 4, ""},
		{"a b", 1, "a"}, {"a b", 0, "- b"}, {"a - b", 2, "a"}, {"a - - - b", 4, "a"},
		{"a - b - c", 4, "a - b"}, {"- a - b", 3, "- a"}, {"- a - b", 1, "- - - b"}, {"a - b c", 2, "a - - c"}, {"a - b c", 3, "a - b"},
	} {
		m := with(t, c.keys)
		m.dropped(t, c.row)
		m.told(t, c.then)
		if m.drop(t, "again", c.row) {
			t.Errorf("%s: Drop(%d) twice: true", c.keys, c.row)
		}
		m.check(t, "dropped twice")
		m.told(t, c.then)
	}
}

// Each order in which five rows may go.
func TestDropInAnyOrder(t *testing.T) {
	var orders func(l []int, do func([]int), rest []int)
	orders = func(l []int, do func([]int), rest []int) {
		if len(rest) == 0 {
			do(l)
		}
		for i, row := range rest {
			orders(append(slices.Clone(l), row), do, slices.Concat(rest[:i], rest[i+1:]))
		}
	}
	count := 0
	orders(nil, func(l []int) {
		count++
		m := with(t, "a b c d e")
		for _, row := range l {
			m.dropped(t, row)
		}
		if m.x.Rows() != 0 || m.x.Live() != 0 {
			t.Fatalf("all dropped, in order %v: Rows %d, Live %d", l, m.x.Rows(), m.x.Live())
		}
		m.added(t, of("a"), 0)
		m.told(t, "a")
	}, []int{0, 1, 2, 3, 4})
	if count != 120 {
		t.Errorf("%d orders", count)
	}
}

func TestMost(t *testing.T) {
	m := filled(t)
	if m.x.Rows() != 4096 {
		t.Fatalf("Rows: %d", m.x.Rows())
	}
	for _, key := range []string{"x", "\x00", "0\x00", "\xff", strings.Repeat("x", 5000)} {
		m.added(t, index.Entry{Key: key, Size: 1}, api.EFULL)
		m.none(t, "full", key)
	}
	for i, row := range []int{0, 1, 77, 2048, most - 2, most - 1} { // one is empty: it is taken, and that is all
		m.dropped(t, row)
		key := "x" + strconv.Itoa(i)
		m.added(t, index.Entry{Key: key, Series: "x", Size: i}, 0)
		if have, ok := m.x.Find(key); !ok || have != row {
			t.Fatalf("the one empty row is %d, and not %d, %v", row, have, ok)
		}
		m.added(t, index.Entry{Key: "y", Size: 1}, api.EFULL)
	}
	for _, row := range []int{500, 3, 4000} {
		m.dropped(t, row)
	}
	for i, row := range []int{3, 500, 4000} { // of three the least one first
		key := "z" + strconv.Itoa(i)
		m.added(t, index.Entry{Key: key}, 0)
		if have, _ := m.x.Find(key); have != row {
			t.Fatalf("of empty rows, %d is taken, not %d", have, row)
		}
	}
	m.added(t, index.Entry{Key: "y", Size: 1}, api.EFULL)
}

// As many as may be go, from the front and from the end, and come again.
func TestMostGo(t *testing.T) {
	m := filled(t)
	for row := range most - 1 {
		m.drop(t, "from the front", row)
		if m.x.Rows() != most {
			t.Fatalf("row %d went from the front: Rows %d", row, m.x.Rows())
		}
	}
	m.check(t, "but the last one")
	m.dropped(t, most-1)
	if m.x.Rows() != 0 {
		t.Fatalf("all went: Rows %d", m.x.Rows())
	}
	m = filled(t)
	for row := most - 1; row > 0; row-- {
		m.drop(t, "from the end", row)
		if m.x.Rows() != row {
			t.Fatalf("row %d went from the end: Rows %d", row, m.x.Rows())
		}
	}
	m.check(t, "but the first one")
	for row := 1; row < most; row++ {
		if e := m.x.Add(index.Entry{Key: "again" + strconv.Itoa(row), Size: row}); e != 0 {
			t.Fatalf("again, row %d: %d", row, e)
		}
		m.is[row] = index.Entry{Key: "again" + strconv.Itoa(row), Size: row}
	}
	m.check(t, "again")
	m.added(t, index.Entry{Key: "x"}, api.EFULL)
}

func TestWrongRows(t *testing.T) {
	for _, m := range states(t) {
		for _, row := range append(wrongRows(m.x.Rows()), 77) {
			if _, there := m.is[row]; there {
				continue
			}
			m.at(t, "wrong row", row)
			m.set(t, "wrong row", row, true)
			m.set(t, "wrong row", row, false)
			m.drop(t, "wrong row", row)
		}
		m.check(t, "wrong rows")
	}
	m := with(t, "- a - - b")
	for _, row := range []int{0, 2, 3} { // empty ones
		if e, ok := m.x.At(row); ok || e != (index.Entry{}) {
			t.Errorf("At(%d) of an empty row: %v, %v", row, e, ok)
		}
		if e, ok := m.x.Drop(row); ok || e != (index.Entry{}) {
			t.Errorf("Drop(%d) of an empty row: %v, %v", row, e, ok)
		}
		if m.x.Set(row, true) || m.x.Set(row, false) {
			t.Errorf("Set(%d) of an empty row: true", row)
		}
		m.check(t, "empty rows")
	}
	m.added(t, of("c"), 0) // not used, though Set was asked of that row
	m.told(t, "c a - - b")
}

func TestWrongKeys(t *testing.T) {
	long := strings.Repeat("k", 1<<12)
	for _, m := range []*model{mustNew(), with(t, "ab"), with(t, "- ab - b "+long), filled(t)} {
		for _, key := range []string{"", "\x00", "a", "abc", "ab\x00", "ab ", "AB", "ba", "B", "c", "-", "gone0", "s0", "s1", "s2", long[1:], long + "k", "-1", "00", "+1", "65537", "\xff"} {
			m.none(t, "wrong key", key)
			m.touch(t, "wrong key", key)
			if m.x.Touch(key) {
				t.Errorf("Touch(%.20q) of none: true", key)
			}
		}
		m.check(t, "wrong keys")
	}
}

// A key whose row was dropped is not there, and may be added again, with other things.
func TestAddAgain(t *testing.T) {
	for _, keys := range []string{"a", "a b", "b a", "b a c", "a - b", "- a b"} {
		m := with(t, keys)
		row, _ := m.x.Find("a")
		m.touch(t, "again", "a")
		for i := range 3 {
			m.dropped(t, row)
			m.none(t, "dropped", "a")
			m.touch(t, "dropped", "a")
			m.added(t, index.Entry{Key: "a", Series: "other", ID: -i, Size: i * i}, 0) // Used of the first is not Used of this
			row, _ = m.x.Find("a")
			m.touch(t, "again", "a")
			m.check(t, "again")
		}
	}
	m := with(t, "a b c") // into another row than the one it had
	m.dropped(t, 1)
	m.dropped(t, 0)
	m.added(t, of("b"), 0)
	m.told(t, "b - c")
	m.added(t, of("a"), 0)
	m.told(t, "b a c")
}

func TestUsed(t *testing.T) {
	for _, used := range []bool{false, true} {
		for row := range 4 {
			m := mustNew()
			for i, key := range []string{"a", "b", "ab", "c"} {
				e := of(key)
				e.Used = used == (i != 2)
				m.added(t, e, 0)
			}
			key := []string{"a", "b", "ab", "c"}[row]
			for _, to := range []bool{true, true, false, false, true} { // also what is so already
				m.set(t, "Set", row, to)
				m.check(t, "Set")
				if e, _ := m.x.At(row); e.Used != to {
					t.Fatalf("Set(%d, %v): Used %v", row, to, e.Used)
				}
			}
			for _, ahead := range []bool{false, true} {
				m.set(t, "ahead of Touch", row, ahead)
				for range 2 {
					m.touch(t, "Touch", key)
					m.check(t, "Touch")
					if e, _ := m.x.At(row); !e.Used {
						t.Fatalf("Touch(%s): not Used", key)
					}
				}
			}
		}
	}
}

// hard are texts with any bytes, and such as begin alike.
func hard() []string {
	long := strings.Repeat("x", 1<<12)
	return []string{
		"a", "aa", "ab", "b", "A", "Aa", "Z", "z", " ", "a ", " a", "_", "~", "1", "9", "10", "01", "-1", "-",
		"\x00", "\x00\x00", "a\x00", "a\x00b", "\xff", "\xff\xff", "a\xff", "\xfe", "\x7f", "\x80", "a\nb", "\n",
		"é", "e\u0301", "ß", "日", "\xe6\x97", "\U0001f407", "\uffff", "\ufffd", "\xc3", "K", "\u212a", "k",
		long, long[1:], long + "\x00", long + "y", long[1:] + "z", "\x00" + long,
	}
}

func TestHardKeysAndSeries(t *testing.T) {
	keys := hard()
	series := append(hard(), "")
	for turn := range 8 {
		m := mustNew()
		for i := range keys {
			key := keys[(turn*5+i*(2*turn+1))%len(keys)]
			for _, other := range keys {
				if m.find(other) < 0 {
					m.none(t, "hard keys", other)
				}
			}
			m.add(t, "hard keys", index.Entry{Key: key, Series: series[(turn*turn+i*3)%len(series)], ID: i, Size: i})
			m.add(t, "hard keys, again", index.Entry{Key: key, Series: series[i%len(series)]})
		}
		m.check(t, "hard keys")
		for i, key := range keys {
			if (i+turn)%3 == 0 {
				m.drop(t, "hard keys", m.find(key))
				m.none(t, "hard keys", key)
			}
			m.touch(t, "hard keys", key)
			m.check(t, "hard keys, some gone")
		}
		for _, s := range series {
			var rows []int
			for row := range m.count() {
				if e, there := m.is[row]; there && e.Series == s {
					rows = append(rows, row)
				}
			}
			if l := m.x.Of(s); !slices.Equal(l, rows) {
				t.Fatalf("Of(%.20q): %v, not %v", s, l, rows)
			}
		}
	}
}

// Each byte is a key and a series of its own.
func TestOneByte(t *testing.T) {
	m := mustNew()
	for i := range 256 {
		b := byte(i * 7)
		m.add(t, "one byte", index.Entry{Key: string([]byte{b}), Series: string([]byte{b ^ 0x55}), ID: int(b)})
	}
	m.check(t, "one byte")
	for i := range 256 {
		row, ok := m.x.Find(string([]byte{byte(i * 7)}))
		if l := m.x.Of(string([]byte{byte(i*7) ^ 0x55})); !ok || row != i || !slices.Equal(l, []int{i}) {
			t.Fatalf("byte %d: Find %d, %v, Of %v", byte(i*7), row, ok, l)
		}
	}
}

// A key says nothing of a series, nor a series of a key, nor where one ends and the other begins.
func TestKeyAndSeriesApart(t *testing.T) {
	m := mustNew()
	for i, e := range []index.Entry{{Key: "ab"}, {Key: "a", Series: "b"}, {Key: "b", Series: "a"}, {Key: "abc", Series: "ab"}, {Key: "c", Series: "ab"}} {
		m.added(t, e, 0)
		if have := m.add(t, "of another series", index.Entry{Key: e.Key, Series: "none", ID: i}); have != api.EFULL {
			t.Errorf("Add of a key that is there, of another series: %d", have)
		}
	}
	for s, want := range map[string][]int{"": {0}, "b": {1}, "a": {2}, "ab": {3, 4}, "abc": nil, "c": nil, "none": nil} {
		if l := m.x.Of(s); !slices.Equal(l, want) {
			t.Errorf("Of(%q): %v, not %v", s, l, want)
		}
	}
}

// An empty row is of no series, not even of the empty one.
func TestEmptySeries(t *testing.T) {
	m := mustNew()
	for _, key := range []string{"a", "b", "c", "d", "e"} {
		m.added(t, index.Entry{Key: key}, 0)
	}
	for i, want := range [][]int{{0, 2, 3, 4}, {0, 2, 4}, {2, 4}} {
		m.dropped(t, []int{1, 3, 0}[i])
		if l := m.x.Of(""); !slices.Equal(l, want) {
			t.Errorf("Of the empty series: %v, not %v", l, want)
		}
	}
	m.added(t, index.Entry{Key: "f", Series: "s"}, 0)
	if l := m.x.Of(""); !slices.Equal(l, []int{2, 4}) {
		t.Errorf("Of the empty series: %v", l)
	}
}

// Rows are told rising, whatever the order in which they were taken.
func TestOfIsRising(t *testing.T) {
	m := with(t, "- - - - - - - - z")
	for _, row := range []int{7, 2, 5, 0, 6, 1} { // all but that row are held while it is taken
		for i := range 8 {
			if _, there := m.is[i]; !there && i < row {
				m.add(t, "rising", index.Entry{Key: "hold" + strconv.Itoa(i)})
			}
		}
		m.added(t, index.Entry{Key: "r" + strconv.Itoa(row), Series: "r"}, 0)
		for i := range 8 {
			if e, there := m.is[i]; there && strings.HasPrefix(e.Key, "hold") {
				m.drop(t, "rising", i)
			}
		}
		m.check(t, "rising")
	}
	if l := m.x.Of("r"); !slices.Equal(l, []int{0, 1, 2, 5, 6, 7}) {
		t.Errorf("Of: %v", l)
	}
	m.told(t, "r0 r1 r2 - - r5 r6 r7 z")
}

// numbers are IDs and Sizes near and far.
func numbers() []int {
	l := []int{math.MinInt, math.MinInt + 1, math.MinInt32, -1, 0, 1, 2, math.MaxInt32, math.MaxUint32, math.MaxInt - 1, math.MaxInt}
	for bit := 3; bit < 63; bit += 4 {
		l = append(l, 1<<bit, -1<<bit+1)
	}
	return l
}

func TestNumbers(t *testing.T) {
	for i, n := range numbers() {
		for _, other := range numbers() {
			m := mustNew()
			m.added(t, index.Entry{Key: "a", ID: n, Size: other}, 0)
			if m.x.Live() != other {
				t.Fatalf("Live of Size %d: %d", other, m.x.Live())
			}
			m.added(t, index.Entry{Key: "b", ID: other, Size: -(n / 2)}, 0)
			m.added(t, index.Entry{Key: "c", ID: i, Size: n}, 0) // together they may wrap round
			m.dropped(t, 1)
			m.dropped(t, 2)
			if m.x.Live() != other {
				t.Fatalf("Live of Size %d, when others went: %d", other, m.x.Live())
			}
		}
	}
	m := mustNew()
	for i, c := range []struct{ size, live int }{{5, 5}, {-7, -2}, {0, -2}, {1 << 40, 1<<40 - 2}, {math.MaxInt - 1<<40, math.MaxInt - 2}} {
		m.added(t, index.Entry{Key: strconv.Itoa(i), Size: c.size}, 0)
		if n := m.x.Live(); n != c.live {
			t.Errorf("Live: %d, not %d", n, c.live)
		}
	}
}

// All rows of five small steps.
func TestAllRows(t *testing.T) {
	steps := []func(m *model){
		func(m *model) { m.add(t, "all rows", index.Entry{Key: "a", Series: "s", ID: 1, Size: 1}) },
		func(m *model) { m.add(t, "all rows", index.Entry{Key: "b", Series: "", ID: 2, Size: 10, Used: true}) },
		func(m *model) { m.add(t, "all rows", index.Entry{Key: "c", Series: "s", ID: 3, Size: 100}) },
		func(m *model) { m.drop(t, "all rows", 0) },
		func(m *model) { m.drop(t, "all rows", 1) },
		func(m *model) { m.drop(t, "all rows", 2) },
		func(m *model) { m.touch(t, "all rows", "a") },
		func(m *model) { m.set(t, "all rows", 1, true) },
		func(m *model) { m.set(t, "all rows", 0, false) },
	}
	n := len(steps)
	for row := range n * n * n * n * n {
		m := mustNew()
		for rest := row + n*n*n*n*n; rest > 1; rest /= n {
			steps[rest%n](m)
		}
		m.check(t, "all rows")
	}
}

// randomStep does one step, of so many keys.
func (m *model) randomStep(t *testing.T, r *rand.Rand, keys, goes int) {
	t.Helper()
	key := strings.Repeat("k", r.Intn(2)) + strconv.Itoa(r.Intn(keys))
	switch n := r.Intn(10); {
	case n < goes:
		m.drop(t, "at random", r.Intn(m.count()+2)-1)
	case n < 8:
		m.add(t, "at random", index.Entry{Key: key, Series: strings.Repeat("s", r.Intn(4)), ID: r.Int(), Size: r.Intn(1000) - 100, Used: r.Intn(2) == 0})
	case n == 8:
		m.touch(t, "at random", key)
	default:
		m.set(t, "at random", r.Intn(m.count()+2)-1, r.Intn(2) == 0)
	}
}

// Long rows of steps at random, in which now more come and now more go.
func TestAnySteps(t *testing.T) {
	r := rand.New(rand.NewSource(20))
	for row := range 60 {
		m := mustNew()
		for i := range 300 {
			m.randomStep(t, r, 2+row, 2+i/50%4)
			if i%(1+row%3) == 0 { // all is asked in between, or it is not
				m.check(t, "at random")
			}
		}
		m.check(t, "at random, at their end")
	}
}

// Of two alike, one is asked all that can be asked, and told what is refused: it tells what
// the other one tells ever after.
func TestWhatChangesNothing(t *testing.T) {
	r := rand.New(rand.NewSource(200))
	for range 100 {
		m, twin := mustNew(), mustNew()
		seed := r.Int63()
		one, other := rand.New(rand.NewSource(seed)), rand.New(rand.NewSource(seed))
		for range 60 {
			n := m.x.Rows()
			for _, row := range append(wrongRows(n), r.Intn(n+1)) {
				m.x.At(row)
				if _, there := m.is[row]; !there {
					m.x.Drop(row)
					m.x.Set(row, true)
				}
			}
			for _, e := range m.is {
				m.x.Add(index.Entry{Key: e.Key, Series: "x", ID: 1, Size: 1, Used: !e.Used})
				m.x.Find(e.Key)
				m.x.Of(e.Series)
			}
			m.x.Add(index.Entry{Series: "x", Size: 5, Used: true})
			m.x.Find("none")
			m.x.Touch("none")
			m.x.Touch("")
			m.x.Of("none")
			m.x.Rows()
			m.x.Live()
			m.randomStep(t, one, 9, 4)
			twin.randomStep(t, other, 9, 4)
			m.check(t, "one")
			twin.check(t, "the other")
			if !maps.Equal(m.is, twin.is) {
				t.Fatalf("%v and %v", m.is, twin.is)
			}
		}
	}
}

// What Of and At tell may be written over, spare room included, and is what was so then,
// whatever comes later; no two answers share any.
func TestAnswersAreNewMemory(t *testing.T) {
	for n := range 20 {
		m := mustNew()
		for i := range n {
			m.add(t, "answers", index.Entry{Key: strconv.Itoa(i), Series: "s", ID: i, Size: i})
		}
		first, second, none := m.x.Of("s"), m.x.Of("s"), m.x.Of("none")
		was := slices.Clone(first)
		for _, l := range [][]int{second, none} {
			l = l[:cap(l)]
			for i := range l {
				l[i] = -7
			}
		}
		m.check(t, "answers are written over")
		e, _ := m.x.At(0)
		kept := e
		e.Key, e.Series, e.ID, e.Size, e.Used = "x", "y", -1, -2, true
		m.check(t, "At is written over")
		m.add(t, "later", index.Entry{Key: "new", Series: "s"})
		m.drop(t, "later", n/2)
		m.drop(t, "later", 0)
		m.touch(t, "later", "new")
		if !slices.Equal(first, was) || e.Key != "x" || kept.Used {
			t.Fatalf("of %d: an answer changed later: %v, not %v", n, first, was)
		}
		for i := range first {
			first[i] = -7
		}
		m.check(t, "an answer is written over later")
	}
}

// What is handed in is kept as it is told then: not the memory that it came in.
func TestTextsAreNotKeptAsTheyCame(t *testing.T) {
	room := []byte("abcstu")
	m := mustNew()
	for i := range 3 {
		m.x.Add(index.Entry{Key: unsafe.String(&room[i], 1), Series: unsafe.String(&room[3+i], 1), ID: i})
		m.is[i] = index.Entry{Key: "abc"[i : i+1], Series: "stu"[i : i+1], ID: i}
	}
	copy(room, "zzzzzz")
	m.check(t, "texts written over")
}

// heap is how many bytes are kept in all.
func heap() int {
	var s runtime.MemStats
	runtime.GC()
	runtime.ReadMemStats(&s)
	return int(s.HeapAlloc)
}

// Of a long text of which a key and a series are a piece, and of what was dropped or was
// refused, nothing is kept.
func TestLetsGo(t *testing.T) {
	const long = 1 << 20
	m := mustNew()
	before := heap()
	for i := range 40 {
		key := strings.Repeat(string([]byte{'a' + byte(i)}), long)
		if e := m.x.Add(index.Entry{Key: key[:10], Series: key[10:30]}); e != api.OK {
			t.Fatalf("Add: %d", e)
		}
		if e := m.x.Add(index.Entry{Key: key[:10], Series: key}); e != api.EFULL {
			t.Fatalf("Add of what is there: %d", e)
		}
	}
	if n := heap() - before; n > long {
		t.Errorf("%d bytes are kept of 40 pieces", n)
	}
	for i := range 20 {
		m.x.Add(index.Entry{Key: strings.Repeat("k", long+i), Series: strings.Repeat("s", long+i)})
	}
	m.x.Add(index.Entry{Key: "behind"})
	if n := heap() - before; n < 40*long {
		t.Errorf("%d bytes are kept of what is there", n)
	}
	for i := range 20 { // ahead of the last row, so that the rows stay
		if _, ok := m.x.Drop(40 + i); !ok {
			t.Fatalf("Drop(%d): false", 40+i)
		}
	}
	if n := heap() - before; n > long {
		t.Errorf("%d bytes are kept of what was dropped", n)
	}
	if m.x.Rows() != 61 {
		t.Errorf("Rows: %d", m.x.Rows())
	}
	for i := range 10 { // at the end, where the rows go too
		m.x.Add(index.Entry{Key: strings.Repeat("k", long+i), Series: strings.Repeat("s", long+i)})
	}
	m.x.Drop(60)
	for i := range 10 {
		m.x.Drop(49 - i)
	}
	if n := heap() - before; n > long || m.x.Rows() != 40 {
		t.Errorf("%d bytes are kept of %d rows", n, m.x.Rows())
	}
}

func TestApart(t *testing.T) {
	m, other := mustNew(), mustNew()
	for i := range 9 {
		key := strconv.Itoa(i % 5)
		m.add(t, "apart", index.Entry{Key: key, Series: "s", Size: i})
		other.check(t, "apart")
		other.add(t, "apart", index.Entry{Key: key, Series: "t", Size: -i, Used: true})
		m.check(t, "apart")
		m.drop(t, "apart", i%3)
		other.check(t, "apart")
		other.set(t, "apart", i%4, false)
		m.touch(t, "apart", key)
		m.check(t, "apart")
		other.check(t, "apart")
	}
	full := filled(t)
	m.added(t, of("there is room"), 0)
	full.check(t, "apart")
}

// Indexes side by side, each with a caller of its own.
func TestSideBySide(t *testing.T) {
	var wg sync.WaitGroup
	for k := range 8 {
		wg.Go(func() {
			x := index.New()
			for i := range 300 {
				if e := x.Add(index.Entry{Key: strconv.Itoa(i), Series: strconv.Itoa(i % (k + 1)), Size: k}); e != api.OK {
					t.Errorf("side by side: Add: %d", e)
				}
			}
			if n := len(x.Of("0")); n != (300+k)/(k+1) || x.Live() != 300*k || x.Rows() != 300 {
				t.Errorf("side by side, of %d: Of %d, Live %d, Rows %d", k, n, x.Live(), x.Rows())
			}
		})
	}
	wg.Wait()
}
